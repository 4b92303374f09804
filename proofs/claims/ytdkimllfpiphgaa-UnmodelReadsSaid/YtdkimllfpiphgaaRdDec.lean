/- The walks over rcdec's decoder. -/
import Derived.Test.YtdkimllfpiphgaaRcBit
import Derived.Test.YtdkimllfpiphgaaRcPlain
import Derived.Test.YtdkimllfpiphgaaRdMath
import Derived.Deep.RegionHeld3
namespace Go.Proofs.Ytdkimllfpiphgaa
open Go.RowKit

/-- The decoder in memory: its struct in block g, its bytes in block o. -/
structure DecAt (w : World) (g o cap : Nat) (l : List UInt8) (x y pos : Nat) (out : Bool) : Prop where
  blk : w.heap[g]? = some (.cells #[.int .u32 (x : Nat), .int .u32 (y : Nat), .slice (some ⟨o, 0, none⟩) l.length cap, .int .i64 (pos : Nat), .bool out] 68 (0, 0))
  own : Bytes w (some ⟨o, 0, none⟩) l
  ne : g ≠ o
  lt : o < w.heap.size
theorem c50 {w : World} {g : Nat} {a b c d e : Value} {t : TypeId} {fr : Nat × Nat} (h : w.heap[g]? = some (.cells #[a, b, c, d, e] t fr)) : w.cell? ⟨g, 0, none⟩ = some a := by rw [cell_of_row _ _ _ _ _ _ h]; rfl
theorem c51 {w : World} {g : Nat} {a b c d e : Value} {t : TypeId} {fr : Nat × Nat} (h : w.heap[g]? = some (.cells #[a, b, c, d, e] t fr)) : w.cell? ⟨g, 1, none⟩ = some b := by rw [cell_of_row _ _ _ _ _ _ h]; rfl
theorem c52 {w : World} {g : Nat} {a b c d e : Value} {t : TypeId} {fr : Nat × Nat} (h : w.heap[g]? = some (.cells #[a, b, c, d, e] t fr)) : w.cell? ⟨g, 2, none⟩ = some c := by rw [cell_of_row _ _ _ _ _ _ h]; rfl
theorem c53 {w : World} {g : Nat} {a b c d e : Value} {t : TypeId} {fr : Nat × Nat} (h : w.heap[g]? = some (.cells #[a, b, c, d, e] t fr)) : w.cell? ⟨g, 3, none⟩ = some d := by rw [cell_of_row _ _ _ _ _ _ h]; rfl
theorem c54 {w : World} {g : Nat} {a b c d e : Value} {t : TypeId} {fr : Nat × Nat} (h : w.heap[g]? = some (.cells #[a, b, c, d, e] t fr)) : w.cell? ⟨g, 4, none⟩ = some e := by rw [cell_of_row _ _ _ _ _ _ h]; rfl
theorem s50 {w : World} {g : Nat} {a b c d e : Value} {t : TypeId} (h : w.heap[g]? = some (.cells #[a, b, c, d, e] t (0, 0))) (u : Value) : (w.setCell ⟨g, 0, none⟩ u).heap[g]? = some (.cells #[u, b, c, d, e] t (0, 0)) := by rw [heap_setCell_same w g 0 _ t u h]; rfl
theorem s51 {w : World} {g : Nat} {a b c d e : Value} {t : TypeId} (h : w.heap[g]? = some (.cells #[a, b, c, d, e] t (0, 0))) (u : Value) : (w.setCell ⟨g, 1, none⟩ u).heap[g]? = some (.cells #[a, u, c, d, e] t (0, 0)) := by rw [heap_setCell_same w g 1 _ t u h]; rfl
theorem s52 {w : World} {g : Nat} {a b c d e : Value} {t : TypeId} (h : w.heap[g]? = some (.cells #[a, b, c, d, e] t (0, 0))) (u : Value) : (w.setCell ⟨g, 2, none⟩ u).heap[g]? = some (.cells #[a, b, u, d, e] t (0, 0)) := by rw [heap_setCell_same w g 2 _ t u h]; rfl
theorem s53 {w : World} {g : Nat} {a b c d e : Value} {t : TypeId} (h : w.heap[g]? = some (.cells #[a, b, c, d, e] t (0, 0))) (u : Value) : (w.setCell ⟨g, 3, none⟩ u).heap[g]? = some (.cells #[a, b, c, u, e] t (0, 0)) := by rw [heap_setCell_same w g 3 _ t u h]; rfl
theorem s54 {w : World} {g : Nat} {a b c d e : Value} {t : TypeId} (h : w.heap[g]? = some (.cells #[a, b, c, d, e] t (0, 0))) (u : Value) : (w.setCell ⟨g, 4, none⟩ u).heap[g]? = some (.cells #[a, b, c, d, u] t (0, 0)) := by rw [heap_setCell_same w g 4 _ t u h]; rfl
theorem bytes_set {w : World} {o : Nat} {l : List UInt8} {p : Addr} (h : Bytes w (some ⟨o, 0, none⟩) l) (hne : p.block ≠ o) (u : Value) : Bytes (w.setCell p u) (some ⟨o, 0, none⟩) l :=
  h.keep (by simp) fun q hq _ => by
    have hq' : q.block = o := by simpa using hq.symm
    exact World.cell?_setCell_far w p q u (by rw [hq']; exact hne)
theorem DecAt.cell {w : World} {g o cap : Nat} {l : List UInt8} {x y pos : Nat} {out : Bool} (h : DecAt w g o cap l x y pos out) (hp : pos < l.length) : w.cell? ⟨o, pos, none⟩ = some (.int .u8 (l[pos].toNat : Nat)) := by
  obtain ⟨b, off, e, _, hc⟩ := h.own.addr (by omega)
  injection e with e; injection e with e1 e2; subst e1; subst e2
  have := hc pos hp
  rw [Nat.zero_add] at this; exact this
theorem DecAt.keep {w w' : World} {g o cap : Nat} {l : List UInt8} {x y pos : Nat} {out : Bool} (h : DecAt w g o cap l x y pos out) (hs : w.heap.size ≤ w'.heap.size) (hg : w'.heap[g]? = w.heap[g]?) (ho : w'.heap[o]? = w.heap[o]?) : DecAt w' g o cap l x y pos out :=
  ⟨hg.trans h.blk, h.own.keep hs fun q hq _ => by
    have hq' : q.block = o := by simpa using hq.symm
    unfold World.cell?; rw [hq', ho], h.ne, Nat.lt_of_lt_of_le h.lt hs⟩
theorem DecAt.glt {w : World} {g o cap : Nat} {l : List UInt8} {x y pos : Nat} {out : Bool} (h : DecAt w g o cap l x y pos out) : g < w.heap.size := block_lt_of_cell (c50 h.blk)
theorem DecAt.below {w w' : World} {g o cap : Nat} {l : List UInt8} {x y pos : Nat} {out : Bool} (h : DecAt w g o cap l x y pos out) (hb : Below w.heap.size w w') : DecAt w' g o cap l x y pos out :=
  h.keep hb.size (hb.block g h.glt) (hb.block o h.lt)

/-- What a call comes to that turns the decoder alone. -/
def Turned (w : World) (g o cap : Nat) (l : List UInt8) (v : Value) (x y pos : Nat) (out : Bool) (e : Ending) (w' : World) : Prop :=
  e = .returned v ∧ DecAt w' g o cap l x y pos out ∧ Only [g] w w'

theorem drew_below (w : World) : Below w.heap.size w w.drew := (Below.refl _ _).drew

set_option maxRecDepth 100000 in
set_option maxHeartbeats 1000000 in
theorem next_read (g o cap : Nat) (l : List UInt8) (x y pos : Nat) (w : World) (hE : DecAt w g o cap l x y pos false) (hp : pos < l.length) (hl : l.length ≤ 140737488355328) :
    Calls Try.prog 89 #[.pointer (some ⟨g, 0, none⟩)] w (Turned w g o cap l (B8 l[pos]) x y (pos + 1) false) := by
  have k2 := c52 hE.blk
  have k3 := c53 hE.blk
  have hne : ((pos : Int) == (l.length : Int)) = false := beq_eq_false_iff_ne.2 (by omega)
  have hpz : (pos : Int) < (l.length : Int) := by omega
  have hc := hE.cell hp
  generalize (l[pos]) = by_ at *
  generalize hL : l.length = L at *
  have HL := Lib.hid hL
  clear hL
  go_enter Try.func89, Try.ntmps89
  go_wp2_with fail
  refine wp_region_held_drew (S := fun w' => w'.cell? ⟨g, 2, none⟩ = some (.slice (some ⟨o, 0, none⟩) L cap) ∧ w'.cell? ⟨g, 3, none⟩ = some (.int .i64 (pos : Nat))) (by kernel_rfl) ⟨k2, k3⟩ (fun hS => ?_)
  refine wpAnyH_take (i := 0) (oi := { dst := some 3, op := Op.move (Operand.tmp 0), type := 25, pos := "rcdec.go:108", after := #[], guard := none }) (v := ?vn1) rfl (by kernel_rfl) (by kernel_rfl) (by kernel_rfl) (fun _ _ _ h => h) (Or.inl ⟨by rfl, ?yn1⟩) hS ?_
  case yn1 =>
    intro w hSw
    go_simp; all_goals (with_reducible rfl)
  simp only [Act.put, List.setIfInBounds_toArray, List.set_cons_zero, List.set_cons_succ]
  refine wpAnyH_take (i := 1) (oi := { dst := some 4, op := Op.nilCheck (Operand.tmp 3), type := 0, pos := "rcdec.go:108", after := #[{ on := 0, ground := Ground.data }], guard := none }) (v := ?vn2) rfl (by kernel_rfl) (by kernel_rfl) (by kernel_rfl) (fun _ _ _ h => h) (Or.inl ⟨by rfl, ?yn2⟩) hS ?_
  case yn2 =>
    intro w hSw
    go_simp; all_goals (with_reducible rfl)
  simp only [Act.put, List.setIfInBounds_toArray, List.set_cons_zero, List.set_cons_succ]
  refine wpAnyH_take (i := 2) (oi := { dst := some 5, op := Op.fieldAddr 68 (Operand.tmp 4) 3, type := 0, pos := "rcdec.go:108", after := #[{ on := 1, ground := Ground.data }], guard := none }) (v := ?vn3) rfl (by kernel_rfl) (by kernel_rfl) (by kernel_rfl) (fun _ _ _ h => h) (Or.inl ⟨by rfl, ?yn3⟩) hS ?_
  case yn3 =>
    intro w hSw
    go_simp; all_goals (with_reducible rfl)
  simp only [Act.put, List.setIfInBounds_toArray, List.set_cons_zero, List.set_cons_succ]
  refine wpAnyH_take (i := 3) (oi := { dst := some 6, op := Op.load 3 (Operand.tmp 5), type := 3, pos := "rcdec.go:108", after := #[{ on := 2, ground := Ground.data }], guard := none }) (v := ?vn4) rfl (by kernel_rfl) (by kernel_rfl) (by kernel_rfl) (fun _ _ _ h => h) (Or.inl ⟨by rfl, ?yn4⟩) hS ?_
  case yn4 =>
    intro w hSw
    obtain ⟨j2, j3⟩ := hSw
    go_simp; all_goals (with_reducible rfl)
  simp only [Act.put, List.setIfInBounds_toArray, List.set_cons_zero, List.set_cons_succ]
  refine wpAnyH_take (i := 4) (oi := { dst := some 7, op := Op.move (Operand.tmp 0), type := 25, pos := "rcdec.go:108", after := #[], guard := none }) (v := ?vn5) rfl (by kernel_rfl) (by kernel_rfl) (by kernel_rfl) (fun _ _ _ h => h) (Or.inl ⟨by rfl, ?yn5⟩) hS ?_
  case yn5 =>
    intro w hSw
    go_simp; all_goals (with_reducible rfl)
  simp only [Act.put, List.setIfInBounds_toArray, List.set_cons_zero, List.set_cons_succ]
  refine wpAnyH_take (i := 5) (oi := { dst := some 8, op := Op.nilCheck (Operand.tmp 7), type := 0, pos := "rcdec.go:108", after := #[{ on := 4, ground := Ground.data }], guard := none }) (v := ?vn6) rfl (by kernel_rfl) (by kernel_rfl) (by kernel_rfl) (fun _ _ _ h => h) (Or.inl ⟨by rfl, ?yn6⟩) hS ?_
  case yn6 =>
    intro w hSw
    go_simp; all_goals (with_reducible rfl)
  simp only [Act.put, List.setIfInBounds_toArray, List.set_cons_zero, List.set_cons_succ]
  refine wpAnyH_take (i := 6) (oi := { dst := some 9, op := Op.fieldAddr 68 (Operand.tmp 8) 2, type := 0, pos := "rcdec.go:108", after := #[{ on := 5, ground := Ground.data }], guard := none }) (v := ?vn7) rfl (by kernel_rfl) (by kernel_rfl) (by kernel_rfl) (fun _ _ _ h => h) (Or.inl ⟨by rfl, ?yn7⟩) hS ?_
  case yn7 =>
    intro w hSw
    go_simp; all_goals (with_reducible rfl)
  simp only [Act.put, List.setIfInBounds_toArray, List.set_cons_zero, List.set_cons_succ]
  refine wpAnyH_take (i := 7) (oi := { dst := some 10, op := Op.load 22 (Operand.tmp 9), type := 22, pos := "rcdec.go:108", after := #[{ on := 6, ground := Ground.data }], guard := none }) (v := ?vn8) rfl (by kernel_rfl) (by kernel_rfl) (by kernel_rfl) (fun _ _ _ h => h) (Or.inl ⟨by rfl, ?yn8⟩) hS ?_
  case yn8 =>
    intro w hSw
    obtain ⟨j2, j3⟩ := hSw
    go_simp; all_goals (with_reducible rfl)
  simp only [Act.put, List.setIfInBounds_toArray, List.set_cons_zero, List.set_cons_succ]
  refine wpAnyH_take (i := 8) (oi := { dst := some 11, op := Op.call { callee := Callee.builtin Builtin.len, args := #[Operand.tmp 10], argTypes := #[22] }, type := 3, pos := "rcdec.go:108", after := #[{ on := 7, ground := Ground.data }], guard := none }) (v := ?vn9) rfl (by kernel_rfl) (by kernel_rfl) (by kernel_rfl) (fun _ _ _ h => h) (Or.inl ⟨by rfl, ?yn9⟩) hS ?_
  case yn9 =>
    intro w hSw
    go_simp; all_goals (with_reducible rfl)
  simp only [Act.put, List.setIfInBounds_toArray, List.set_cons_zero, List.set_cons_succ]
  refine wpAnyH_take (i := 9) (oi := { dst := some 12, op := Op.binOp BinOp.eql 3 (Operand.tmp 6) (Operand.tmp 11) 3, type := 4, pos := "rcdec.go:108", after := #[{ on := 3, ground := Ground.data }, { on := 8, ground := Ground.data }], guard := none }) (v := ?vn10) rfl (by kernel_rfl) (by kernel_rfl) (by kernel_rfl) (fun _ _ _ h => h) (Or.inl ⟨by rfl, ?yn10⟩) hS ?_
  case yn10 =>
    intro w hSw
    go_simp; all_goals (with_reducible rfl)
  simp only [Act.put, List.setIfInBounds_toArray, List.set_cons_zero, List.set_cons_succ]
  refine wpAnyH_done (by kernel_rfl) ?_ _
  have hEd := hE.below (drew_below w)
  have hond : Only [g] w w.drew := (Only.refl _ _).drew
  have hcd : w.drew.cell? ⟨o, pos, none⟩ = some (B8 by_) := hc
  clear hE k2 k3 hc
  generalize w.drew = wd at *
  have k2 := c52 hEd.blk
  have k3 := c53 hEd.blk
  have f3 := frozen_of_row wd g 3 _ _ hEd.blk
  rw [HL.out] at k2
  have hE1 : DecAt (wd.setCell ⟨g, 3, none⟩ (.int .i64 ((pos + 1 : Nat) : Int))) g o cap l x y (pos + 1) false := ⟨s53 hEd.blk _, bytes_set hEd.own hEd.ne _, hEd.ne, by simpa using hEd.lt⟩
  have hon : Only [g] w (wd.setCell ⟨g, 3, none⟩ (.int .i64 ((pos + 1 : Nat) : Int))) := hond.setCell (.inl (by simp)) _
  have kc : (wd.setCell ⟨g, 3, none⟩ (.int .i64 ((pos + 1 : Nat) : Int))).cell? ⟨o, pos, none⟩ = some (B8 by_) := (World.cell?_setCell_far wd _ _ _ hEd.ne).trans hcd
  have q2 := c52 hE1.blk
  have q3 := c53 hE1.blk
  have hsum : ((pos + 1 : Nat) : Int) = (pos : Int) + 1 := by omega
  rw [hsum] at hon kc q2 q3
  rw [HL.out] at q2
  have hE2 : DecAt (wd.setCell ⟨g, 3, none⟩ (.int .i64 ((pos : Int) + 1))) g o cap l x y (pos + 1) false := by rw [← hsum]; exact hE1
  clear hE1 hsum
  generalize hw1 : wd.setCell ⟨g, 3, none⟩ (.int .i64 ((pos : Int) + 1)) = w1 at *
  have HW1 := Lib.hid hw1
  clear hw1
  go_upto_region 5 with (fail)
  rw [HW1.out]
  clear k2 k3 f3 hcd hond hEd HW1
  have hwp : IntKind.i64.wrap (pos : Int) = (pos : Int) := IntWalk.i64_in _ (by omega)
  refine wp_region_held_drew (S := fun w' => w'.cell? ⟨g, 2, none⟩ = some (.slice (some ⟨o, 0, none⟩) L cap) ∧ w'.cell? ⟨g, 3, none⟩ = some (.int .i64 ((pos : Int) + 1)) ∧ w'.cell? ⟨o, pos, none⟩ = some (B8 by_)) (by kernel_rfl) ⟨q2, q3, kc⟩ (fun hS => ?_)
  refine wpAnyH_take (i := 0) (oi := { dst := some 23, op := Op.move (Operand.tmp 0), type := 25, pos := "rcdec.go:113", after := #[], guard := none }) (v := ?vm11) rfl (by kernel_rfl) (by kernel_rfl) (by kernel_rfl) (fun _ _ _ h => h) (Or.inl ⟨by rfl, ?ym11⟩) hS ?_
  case ym11 =>
    intro w hSw
    go_simp; all_goals (with_reducible rfl)
  simp only [Act.put, List.setIfInBounds_toArray, List.set_cons_zero, List.set_cons_succ]
  refine wpAnyH_take (i := 1) (oi := { dst := some 24, op := Op.nilCheck (Operand.tmp 23), type := 0, pos := "rcdec.go:113", after := #[{ on := 0, ground := Ground.data }], guard := none }) (v := ?vm12) rfl (by kernel_rfl) (by kernel_rfl) (by kernel_rfl) (fun _ _ _ h => h) (Or.inl ⟨by rfl, ?ym12⟩) hS ?_
  case ym12 =>
    intro w hSw
    go_simp; all_goals (with_reducible rfl)
  simp only [Act.put, List.setIfInBounds_toArray, List.set_cons_zero, List.set_cons_succ]
  refine wpAnyH_take (i := 2) (oi := { dst := some 25, op := Op.fieldAddr 68 (Operand.tmp 24) 2, type := 0, pos := "rcdec.go:113", after := #[{ on := 1, ground := Ground.data }], guard := none }) (v := ?vm13) rfl (by kernel_rfl) (by kernel_rfl) (by kernel_rfl) (fun _ _ _ h => h) (Or.inl ⟨by rfl, ?ym13⟩) hS ?_
  case ym13 =>
    intro w hSw
    go_simp; all_goals (with_reducible rfl)
  simp only [Act.put, List.setIfInBounds_toArray, List.set_cons_zero, List.set_cons_succ]
  refine wpAnyH_take (i := 3) (oi := { dst := some 26, op := Op.load 22 (Operand.tmp 25), type := 22, pos := "rcdec.go:113", after := #[{ on := 2, ground := Ground.data }], guard := none }) (v := ?vm14) rfl (by kernel_rfl) (by kernel_rfl) (by kernel_rfl) (fun _ _ _ h => h) (Or.inl ⟨by rfl, ?ym14⟩) hS ?_
  case ym14 =>
    intro w hSw
    obtain ⟨j2, j3, j4⟩ := hSw
    go_simp; all_goals (with_reducible rfl)
  simp only [Act.put, List.setIfInBounds_toArray, List.set_cons_zero, List.set_cons_succ]
  refine wpAnyH_take (i := 4) (oi := { dst := some 27, op := Op.move (Operand.tmp 0), type := 25, pos := "rcdec.go:113", after := #[], guard := none }) (v := ?vm15) rfl (by kernel_rfl) (by kernel_rfl) (by kernel_rfl) (fun _ _ _ h => h) (Or.inl ⟨by rfl, ?ym15⟩) hS ?_
  case ym15 =>
    intro w hSw
    go_simp; all_goals (with_reducible rfl)
  simp only [Act.put, List.setIfInBounds_toArray, List.set_cons_zero, List.set_cons_succ]
  refine wpAnyH_take (i := 5) (oi := { dst := some 28, op := Op.nilCheck (Operand.tmp 27), type := 0, pos := "rcdec.go:113", after := #[{ on := 4, ground := Ground.data }], guard := none }) (v := ?vm16) rfl (by kernel_rfl) (by kernel_rfl) (by kernel_rfl) (fun _ _ _ h => h) (Or.inl ⟨by rfl, ?ym16⟩) hS ?_
  case ym16 =>
    intro w hSw
    go_simp; all_goals (with_reducible rfl)
  simp only [Act.put, List.setIfInBounds_toArray, List.set_cons_zero, List.set_cons_succ]
  refine wpAnyH_take (i := 6) (oi := { dst := some 29, op := Op.fieldAddr 68 (Operand.tmp 28) 3, type := 0, pos := "rcdec.go:113", after := #[{ on := 5, ground := Ground.data }], guard := none }) (v := ?vm17) rfl (by kernel_rfl) (by kernel_rfl) (by kernel_rfl) (fun _ _ _ h => h) (Or.inl ⟨by rfl, ?ym17⟩) hS ?_
  case ym17 =>
    intro w hSw
    go_simp; all_goals (with_reducible rfl)
  simp only [Act.put, List.setIfInBounds_toArray, List.set_cons_zero, List.set_cons_succ]
  refine wpAnyH_take (i := 7) (oi := { dst := some 30, op := Op.load 3 (Operand.tmp 29), type := 3, pos := "rcdec.go:113", after := #[{ on := 6, ground := Ground.data }], guard := none }) (v := ?vm18) rfl (by kernel_rfl) (by kernel_rfl) (by kernel_rfl) (fun _ _ _ h => h) (Or.inl ⟨by rfl, ?ym18⟩) hS ?_
  case ym18 =>
    intro w hSw
    obtain ⟨j2, j3, j4⟩ := hSw
    go_simp; all_goals (with_reducible rfl)
  simp only [Act.put, List.setIfInBounds_toArray, List.set_cons_zero, List.set_cons_succ]
  refine wpAnyH_take (i := 8) (oi := { dst := some 31, op := Op.binOp BinOp.sub 3 (Operand.tmp 30) (Operand.const (Value.int IntKind.i64 1)) 3, type := 3, pos := "rcdec.go:113", after := #[{ on := 7, ground := Ground.data }], guard := none }) (v := ?vm19) rfl (by kernel_rfl) (by kernel_rfl) (by kernel_rfl) (fun _ _ _ h => h) (Or.inl ⟨by rfl, ?ym19⟩) hS ?_
  case ym19 =>
    intro w hSw
    go_simp; all_goals (with_reducible rfl)
  simp only [Act.put, List.setIfInBounds_toArray, List.set_cons_zero, List.set_cons_succ]
  refine wpAnyH_take (i := 9) (oi := { dst := some 32, op := Op.indexAddr 22 (Operand.tmp 26) (Operand.tmp 31), type := 0, pos := "rcdec.go:113", after := #[{ on := 3, ground := Ground.data }, { on := 8, ground := Ground.data }], guard := none }) (v := ?vm20) rfl (by kernel_rfl) (by kernel_rfl) (by kernel_rfl) (fun _ _ _ h => h) (Or.inl ⟨by rfl, ?ym20⟩) hS ?_
  case ym20 =>
    intro w hSw
    go_simp; all_goals (with_reducible rfl)
  simp only [Act.put, List.setIfInBounds_toArray, List.set_cons_zero, List.set_cons_succ]
  refine wpAnyH_take (i := 10) (oi := { dst := some 33, op := Op.load 5 (Operand.tmp 32), type := 5, pos := "rcdec.go:113", after := #[{ on := 9, ground := Ground.data }], guard := none }) (v := ?vm21) rfl (by kernel_rfl) (by kernel_rfl) (by kernel_rfl) (fun _ _ _ h => h) (Or.inl ⟨by rfl, ?ym21⟩) hS ?_
  case ym21 =>
    intro w hSw
    obtain ⟨j2, j3, j4⟩ := hSw
    go_simp; all_goals (with_reducible rfl)
  simp only [Act.put, List.setIfInBounds_toArray, List.set_cons_zero, List.set_cons_succ]
  refine wpAnyH_take (i := 11) (oi := { dst := some 2, op := Op.assign (Operand.tmp 33), type := 5, pos := "rcdec.go:113", after := #[{ on := 10, ground := Ground.data }, { on := 0, ground := Ground.phase }, { on := 1, ground := Ground.phase }, { on := 2, ground := Ground.phase }, { on := 3, ground := Ground.phase }, { on := 4, ground := Ground.phase }, { on := 5, ground := Ground.phase }, { on := 6, ground := Ground.phase }, { on := 7, ground := Ground.phase }, { on := 8, ground := Ground.phase }, { on := 9, ground := Ground.phase }, { on := 10, ground := Ground.phase }], guard := none }) (v := ?vm22) rfl (by kernel_rfl) (by kernel_rfl) (by kernel_rfl) (fun _ _ _ h => h) (Or.inl ⟨by rfl, ?ym22⟩) hS ?_
  case ym22 =>
    intro w hSw
    go_simp; all_goals (with_reducible rfl)
  simp only [Act.put, List.setIfInBounds_toArray, List.set_cons_zero, List.set_cons_succ]
  refine wpAnyH_done (by kernel_rfl) ?_ _
  go_wp2_with fail
  go_ret
  exact ⟨rfl, hE2.below (drew_below _), hon.drew⟩

set_option maxRecDepth 100000 in
set_option maxHeartbeats 1000000 in
theorem next_out (g o cap : Nat) (l : List UInt8) (x y : Nat) (w : World) (hE : DecAt w g o cap l x y l.length false) :
    Calls Try.prog 89 #[.pointer (some ⟨g, 0, none⟩)] w (Turned w g o cap l (.int .u8 0) x y l.length true) := by
  have k2 := c52 hE.blk
  have k3 := c53 hE.blk
  have hEd := hE.below (drew_below w)
  have hond : Only [g] w w.drew := (Only.refl _ _).drew
  have f4 := frozen_of_row w.drew g 4 _ _ hEd.blk
  have k4 := c54 hEd.blk
  have hE1 : DecAt (w.drew.setCell ⟨g, 4, none⟩ (.bool true)) g o cap l x y l.length true := ⟨s54 hEd.blk _, bytes_set hEd.own hEd.ne _, hEd.ne, by simpa using hEd.lt⟩
  have hon : Only [g] w (w.drew.setCell ⟨g, 4, none⟩ (.bool true)) := hond.setCell (.inl (by simp)) _
  generalize hL : l.length = L at *
  have HL := Lib.hid hL
  clear hL hEd hond
  go_enter Try.func89, Try.ntmps89
  go_wp2_with fail
  refine wp_region_held_drew (S := fun w' => w'.cell? ⟨g, 2, none⟩ = some (.slice (some ⟨o, 0, none⟩) L cap) ∧ w'.cell? ⟨g, 3, none⟩ = some (.int .i64 (L : Nat))) (by kernel_rfl) ⟨k2, k3⟩ (fun hS => ?_)
  refine wpAnyH_take (i := 0) (oi := { dst := some 3, op := Op.move (Operand.tmp 0), type := 25, pos := "rcdec.go:108", after := #[], guard := none }) (v := ?vk23) rfl (by kernel_rfl) (by kernel_rfl) (by kernel_rfl) (fun _ _ _ h => h) (Or.inl ⟨by rfl, ?yk23⟩) hS ?_
  case yk23 =>
    intro w hSw
    go_simp; all_goals (with_reducible rfl)
  simp only [Act.put, List.setIfInBounds_toArray, List.set_cons_zero, List.set_cons_succ]
  refine wpAnyH_take (i := 1) (oi := { dst := some 4, op := Op.nilCheck (Operand.tmp 3), type := 0, pos := "rcdec.go:108", after := #[{ on := 0, ground := Ground.data }], guard := none }) (v := ?vk24) rfl (by kernel_rfl) (by kernel_rfl) (by kernel_rfl) (fun _ _ _ h => h) (Or.inl ⟨by rfl, ?yk24⟩) hS ?_
  case yk24 =>
    intro w hSw
    go_simp; all_goals (with_reducible rfl)
  simp only [Act.put, List.setIfInBounds_toArray, List.set_cons_zero, List.set_cons_succ]
  refine wpAnyH_take (i := 2) (oi := { dst := some 5, op := Op.fieldAddr 68 (Operand.tmp 4) 3, type := 0, pos := "rcdec.go:108", after := #[{ on := 1, ground := Ground.data }], guard := none }) (v := ?vk25) rfl (by kernel_rfl) (by kernel_rfl) (by kernel_rfl) (fun _ _ _ h => h) (Or.inl ⟨by rfl, ?yk25⟩) hS ?_
  case yk25 =>
    intro w hSw
    go_simp; all_goals (with_reducible rfl)
  simp only [Act.put, List.setIfInBounds_toArray, List.set_cons_zero, List.set_cons_succ]
  refine wpAnyH_take (i := 3) (oi := { dst := some 6, op := Op.load 3 (Operand.tmp 5), type := 3, pos := "rcdec.go:108", after := #[{ on := 2, ground := Ground.data }], guard := none }) (v := ?vk26) rfl (by kernel_rfl) (by kernel_rfl) (by kernel_rfl) (fun _ _ _ h => h) (Or.inl ⟨by rfl, ?yk26⟩) hS ?_
  case yk26 =>
    intro w hSw
    obtain ⟨j2, j3⟩ := hSw
    go_simp; all_goals (with_reducible rfl)
  simp only [Act.put, List.setIfInBounds_toArray, List.set_cons_zero, List.set_cons_succ]
  refine wpAnyH_take (i := 4) (oi := { dst := some 7, op := Op.move (Operand.tmp 0), type := 25, pos := "rcdec.go:108", after := #[], guard := none }) (v := ?vk27) rfl (by kernel_rfl) (by kernel_rfl) (by kernel_rfl) (fun _ _ _ h => h) (Or.inl ⟨by rfl, ?yk27⟩) hS ?_
  case yk27 =>
    intro w hSw
    go_simp; all_goals (with_reducible rfl)
  simp only [Act.put, List.setIfInBounds_toArray, List.set_cons_zero, List.set_cons_succ]
  refine wpAnyH_take (i := 5) (oi := { dst := some 8, op := Op.nilCheck (Operand.tmp 7), type := 0, pos := "rcdec.go:108", after := #[{ on := 4, ground := Ground.data }], guard := none }) (v := ?vk28) rfl (by kernel_rfl) (by kernel_rfl) (by kernel_rfl) (fun _ _ _ h => h) (Or.inl ⟨by rfl, ?yk28⟩) hS ?_
  case yk28 =>
    intro w hSw
    go_simp; all_goals (with_reducible rfl)
  simp only [Act.put, List.setIfInBounds_toArray, List.set_cons_zero, List.set_cons_succ]
  refine wpAnyH_take (i := 6) (oi := { dst := some 9, op := Op.fieldAddr 68 (Operand.tmp 8) 2, type := 0, pos := "rcdec.go:108", after := #[{ on := 5, ground := Ground.data }], guard := none }) (v := ?vk29) rfl (by kernel_rfl) (by kernel_rfl) (by kernel_rfl) (fun _ _ _ h => h) (Or.inl ⟨by rfl, ?yk29⟩) hS ?_
  case yk29 =>
    intro w hSw
    go_simp; all_goals (with_reducible rfl)
  simp only [Act.put, List.setIfInBounds_toArray, List.set_cons_zero, List.set_cons_succ]
  refine wpAnyH_take (i := 7) (oi := { dst := some 10, op := Op.load 22 (Operand.tmp 9), type := 22, pos := "rcdec.go:108", after := #[{ on := 6, ground := Ground.data }], guard := none }) (v := ?vk30) rfl (by kernel_rfl) (by kernel_rfl) (by kernel_rfl) (fun _ _ _ h => h) (Or.inl ⟨by rfl, ?yk30⟩) hS ?_
  case yk30 =>
    intro w hSw
    obtain ⟨j2, j3⟩ := hSw
    go_simp; all_goals (with_reducible rfl)
  simp only [Act.put, List.setIfInBounds_toArray, List.set_cons_zero, List.set_cons_succ]
  refine wpAnyH_take (i := 8) (oi := { dst := some 11, op := Op.call { callee := Callee.builtin Builtin.len, args := #[Operand.tmp 10], argTypes := #[22] }, type := 3, pos := "rcdec.go:108", after := #[{ on := 7, ground := Ground.data }], guard := none }) (v := ?vk31) rfl (by kernel_rfl) (by kernel_rfl) (by kernel_rfl) (fun _ _ _ h => h) (Or.inl ⟨by rfl, ?yk31⟩) hS ?_
  case yk31 =>
    intro w hSw
    go_simp; all_goals (with_reducible rfl)
  simp only [Act.put, List.setIfInBounds_toArray, List.set_cons_zero, List.set_cons_succ]
  refine wpAnyH_take (i := 9) (oi := { dst := some 12, op := Op.binOp BinOp.eql 3 (Operand.tmp 6) (Operand.tmp 11) 3, type := 4, pos := "rcdec.go:108", after := #[{ on := 3, ground := Ground.data }, { on := 8, ground := Ground.data }], guard := none }) (v := ?vk32) rfl (by kernel_rfl) (by kernel_rfl) (by kernel_rfl) (fun _ _ _ h => h) (Or.inl ⟨by rfl, ?yk32⟩) hS ?_
  case yk32 =>
    intro w hSw
    go_simp; all_goals (with_reducible rfl)
  simp only [Act.put, List.setIfInBounds_toArray, List.set_cons_zero, List.set_cons_succ]
  refine wpAnyH_done (by kernel_rfl) ?_ _
  clear hE k2 k3
  generalize w.drew = wd at *
  go_wp2_with fail
  go_ret
  exact ⟨rfl, hE1, hon⟩
end Go.Proofs.Ytdkimllfpiphgaa
