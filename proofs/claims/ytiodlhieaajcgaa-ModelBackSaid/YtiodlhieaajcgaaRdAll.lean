/- Several texts in one: RdMath, RdDec, RdShift, RdBit, RdPlain. -/
import Derived.Test.YtiodlhieaajcgaaRcMath2
import Derived.Test.YtiodlhieaajcgaaRcEncAll
import Derived.Test.YtiodlhieaajcgaaRcPlainAll
import Derived.Deep.RegionHeld3
import Derived.Deep.LoopGhost
import Derived.Deep.DeepCutAuto
/- A range decoder as numbers: the place of the next byte, Code, Range, whether it is out. Plain mathematics. -/
namespace Go.Proofs.Ytiodlhieaajcgaa.Rd

structure St where
  pos : Nat
  c : Nat
  r : Nat
  out : Bool

/-- A byte more is read, or it is out. -/
def next (l : List UInt8) (s : St) : St :=
  if h : s.pos < l.length then ⟨s.pos + 1, (256 * s.c + (l[s.pos]).toNat) % 4294967296, s.r * 256, false⟩ else ⟨s.pos, 0, 0, true⟩

def scale (l : List UInt8) : Nat → St → St
  | 0, s => s
  | N + 1, s => if s.out = false ∧ s.r < 16777216 then scale l N (next l s) else s

theorem next_in {l : List UInt8} {s : St} (h : s.pos < l.length) : next l s = ⟨s.pos + 1, (256 * s.c + (l[s.pos]).toNat) % 4294967296, s.r * 256, false⟩ := dif_pos h
theorem next_end {l : List UInt8} {s : St} (h : ¬ s.pos < l.length) : next l s = ⟨s.pos, 0, 0, true⟩ := dif_neg h
theorem scale_out {l : List UInt8} {N : Nat} {s : St} (h : s.out = true) : scale l N s = s := by
  cases N with
  | zero => rfl
  | succ N => rw [scale, if_neg (by simp [h])]
theorem scale_big {l : List UInt8} {N : Nat} {s : St} (h : ¬ s.r < 16777216) : scale l N s = s := by
  cases N with
  | zero => rfl
  | succ N => rw [scale, if_neg (by simp [h])]
theorem scale_step {l : List UInt8} {N : Nat} {s : St} (h : s.out = false) (hr : s.r < 16777216) : scale l (N + 1) s = scale l N (next l s) := by rw [scale, if_pos ⟨h, hr⟩]

/-- What may be. -/
def St.fits (l : List UInt8) (s : St) : Prop := s.pos ≤ l.length ∧ s.c < 4294967296 ∧ s.r < 4294967296
def St.ok (l : List UInt8) (s : St) : Prop := s.fits l ∧ (s.out = false → 16777216 ≤ s.r)

theorem next_fits {l : List UInt8} {s : St} (h : s.fits l) (hr : s.r < 16777216) : (next l s).fits l := by
  obtain ⟨h1, h2, h3⟩ := h
  by_cases hp : s.pos < l.length
  · rw [next_in hp]
    exact ⟨hp, Nat.mod_lt _ (by omega), by show s.r * 256 < _; omega⟩
  · rw [next_end hp]; exact ⟨h1, by show 0 < _; omega, by show 0 < _; omega⟩

theorem scale_ok (l : List UInt8) (N : Nat) (s : St) (h : s.fits l) (hr : s.out = false → 16777216 ≤ s.r * 256 ^ N) : (scale l N s).ok l := by
  induction N generalizing s with
  | zero => exact ⟨h, fun ho => by show 16777216 ≤ s.r; have := hr ho; simpa using this⟩
  | succ N ih =>
    by_cases ho : s.out = true
    · rw [scale_out ho]; exact ⟨h, by simp [ho]⟩
    · have ho' : s.out = false := by simpa using ho
      by_cases hb : s.r < 16777216
      · rw [scale_step ho' hb]
        refine ih _ (next_fits h hb) ?_
        by_cases hp : s.pos < l.length
        · rw [next_in hp]
          intro _
          show 16777216 ≤ s.r * 256 * 256 ^ N
          have := hr ho'
          rw [Nat.pow_succ, Nat.mul_comm (256 ^ N), ← Nat.mul_assoc] at this; exact this
        · rw [next_end hp]; intro h; cases h
      · rw [scale_big hb]; exact ⟨h, fun _ => by omega⟩

/-- The half that is taken, with a chance. -/
def St.one (s : St) (p : Nat) : Bool := decide (s.r / 2048 * p ≤ s.c)
def St.pick (s : St) (p : Nat) : St := if s.r / 2048 * p ≤ s.c then ⟨s.pos, s.c - s.r / 2048 * p, s.r - s.r / 2048 * p, false⟩ else ⟨s.pos, s.c, s.r / 2048 * p, false⟩
theorem St.pick_fits {l : List UInt8} {s : St} {p : Nat} (h : s.ok l) (ho : s.out = false) (h1 : 1 ≤ p) (h2 : p ≤ 2047) : (s.pick p).fits l ∧ 8192 ≤ (s.pick p).r := by
  obtain ⟨⟨hp, hc, hr⟩, hb⟩ := h
  have hb := hb ho
  have k1 : s.r / 2048 * 1 ≤ s.r / 2048 * p := Nat.mul_le_mul_left _ h1
  have k2 : s.r / 2048 * p ≤ s.r / 2048 * 2047 := Nat.mul_le_mul_left _ h2
  unfold St.pick St.fits
  by_cases hcp : s.r / 2048 * p ≤ s.c
  · rw [if_pos hcp]; simp only; omega
  · rw [if_neg hcp]; simp only; omega

/-- A bit is read. -/
def St.bit (l : List UInt8) (s : St) (p : Nat) : Bool × St := if s.out then (false, s) else (s.one p, scale l 2 (s.pick p))
theorem St.bit_ok {l : List UInt8} {s : St} {p : Nat} (h : s.ok l) (h1 : 1 ≤ p) (h2 : p ≤ 2047) : (s.bit l p).2.ok l := by
  unfold St.bit
  by_cases ho : s.out = true
  · rw [if_pos ho]; exact h
  · rw [if_neg ho]
    have ho' : s.out = false := by simpa using ho
    obtain ⟨k1, k2⟩ := St.pick_fits h ho' h1 h2
    exact scale_ok l 2 _ k1 (fun _ => by omega)

/-- The half that is taken, plainly. -/
def St.half (s : St) : St := if s.r / 2 ≤ s.c then ⟨s.pos, s.c - s.r / 2, s.r / 2, false⟩ else ⟨s.pos, s.c, s.r / 2, false⟩
theorem St.half_fits {l : List UInt8} {s : St} (h : s.ok l) (ho : s.out = false) : s.half.fits l ∧ 8388608 ≤ s.half.r := by
  obtain ⟨⟨hp, hc, hr⟩, hb⟩ := h
  have hb := hb ho
  unfold St.half St.fits
  by_cases hcp : s.r / 2 ≤ s.c
  · rw [if_pos hcp]; simp only; omega
  · rw [if_neg hcp]; simp only; omega

/-- Plain bits, the most significant one first. -/
def St.rounds (l : List UInt8) (s : St) : Nat → Nat × St
  | 0 => (0, s)
  | n + 1 => if (s.rounds l n).2.out then s.rounds l n else
      (2 * (s.rounds l n).1 + (if (s.rounds l n).2.r / 2 ≤ (s.rounds l n).2.c then 1 else 0), scale l 1 (s.rounds l n).2.half)
theorem St.rounds_ok {l : List UInt8} {s : St} (h : s.ok l) (n : Nat) : (s.rounds l n).2.ok l ∧ (s.rounds l n).1 < 2 ^ n := by
  induction n with
  | zero => exact ⟨h, by show 0 < 1; omega⟩
  | succ n ih =>
    obtain ⟨h1, h2⟩ := ih
    rw [St.rounds]
    by_cases ho : (s.rounds l n).2.out = true
    · rw [if_pos ho]; exact ⟨h1, by rw [Nat.pow_succ]; omega⟩
    · rw [if_neg ho]
      have ho' : (s.rounds l n).2.out = false := by simpa using ho
      obtain ⟨k1, k2⟩ := St.half_fits h1 ho'
      refine ⟨scale_ok l 1 _ k1 (fun _ => by omega), ?_⟩
      show 2 * (s.rounds l n).1 + _ < _
      rw [Nat.pow_succ]
      split <;> omega
/-- Once out, always out. -/
theorem St.rounds_out {l : List UInt8} {s : St} {n m : Nat} (hnm : n ≤ m) (h : (s.rounds l n).2.out = true) : s.rounds l m = s.rounds l n := by
  induction m with
  | zero => obtain rfl : n = 0 := by omega
            rfl
  | succ m ih =>
    rcases Nat.lt_or_ge m n with h1 | h1
    · obtain rfl : n = m + 1 := by omega
      rfl
    · have := ih h1
      rw [St.rounds, this, if_pos h]
/-- What they come to. -/
def St.plain (l : List UInt8) (s : St) (n : Nat) : Nat × St := if (s.rounds l n).2.out then (0, (s.rounds l n).2) else s.rounds l n
def St.done (l : List UInt8) (s : St) : Bool := !s.out && (s.pos == l.length && s.c == 0)
end Go.Proofs.Ytiodlhieaajcgaa.Rd

/- The walks over rcdec's decoder. -/
namespace Go.Proofs.Ytiodlhieaajcgaa
open Go.RowKit

/-- The decoder in memory: its struct in block g, its bytes in block o. -/
structure DecAt (w : World) (g o cap : Nat) (l : List UInt8) (x y pos : Nat) (out : Bool) : Prop where
  blk : w.heap[g]? = some (.cells #[.int .u32 (x : Nat), .int .u32 (y : Nat), .slice (some ⟨o, 0, none⟩) l.length cap, .int .i64 (pos : Nat), .bool out] 91 (0, 0))
  own : Bytes w (some ⟨o, 0, none⟩) l
  ne : g ≠ o
  lt : o < w.heap.size
theorem c50 {w : World} {g : Nat} {a b c d e : Value} {t : TypeId} {fr : Nat × Nat} (h : w.heap[g]? = some (.cells #[a, b, c, d, e] t fr)) : w.cell? ⟨g, 0, none⟩ = some a := by rw [cell_of_row _ _ _ _ _ _ h]; rfl
theorem c51 {w : World} {g : Nat} {a b c d e : Value} {t : TypeId} {fr : Nat × Nat} (h : w.heap[g]? = some (.cells #[a, b, c, d, e] t fr)) : w.cell? ⟨g, 1, none⟩ = some b := by rw [cell_of_row _ _ _ _ _ _ h]; rfl
theorem c52 {w : World} {g : Nat} {a b c d e : Value} {t : TypeId} {fr : Nat × Nat} (h : w.heap[g]? = some (.cells #[a, b, c, d, e] t fr)) : w.cell? ⟨g, 2, none⟩ = some c := by rw [cell_of_row _ _ _ _ _ _ h]; rfl
theorem c53 {w : World} {g : Nat} {a b c d e : Value} {t : TypeId} {fr : Nat × Nat} (h : w.heap[g]? = some (.cells #[a, b, c, d, e] t fr)) : w.cell? ⟨g, 3, none⟩ = some d := by rw [cell_of_row _ _ _ _ _ _ h]; rfl
theorem c54 {w : World} {g : Nat} {a b c d e : Value} {t : TypeId} {fr : Nat × Nat} (h : w.heap[g]? = some (.cells #[a, b, c, d, e] t fr)) : w.cell? ⟨g, 4, none⟩ = some e := by rw [cell_of_row _ _ _ _ _ _ h]; rfl
theorem s50 {w : World} {g : Nat} {a b c d e : Value} {t : TypeId} (h : w.heap[g]? = some (.cells #[a, b, c, d, e] t (0, 0))) (u : Value) : (w.setCell ⟨g, 0, none⟩ u).heap[g]? = some (.cells #[u, b, c, d, e] t (0, 0)) := by rw [heap_setCell_same w g 0 _ t u h]; rfl
theorem s51 {w : World} {g : Nat} {a b c d e : Value} {t : TypeId} (h : w.heap[g]? = some (.cells #[a, b, c, d, e] t (0, 0))) (u : Value) : (w.setCell ⟨g, 1, none⟩ u).heap[g]? = some (.cells #[a, u, c, d, e] t (0, 0)) := by rw [heap_setCell_same w g 1 _ t u h]; rfl
theorem s52 {w : World} {g : Nat} {a b c d e : Value} {t : TypeId} (h : w.heap[g]? = some (.cells #[a, b, c, d, e] t (0, 0))) (u : Value) : (w.setCell ⟨g, 2, none⟩ u).heap[g]? = some (.cells #[a, b, u, d, e] t (0, 0)) := by rw [heap_setCell_same w g 2 _ t u h]; rfl
theorem s53 {w : World} {g : Nat} {a b c d e : Value} {t : TypeId} (h : w.heap[g]? = some (.cells #[a, b, c, d, e] t (0, 0))) (u : Value) : (w.setCell ⟨g, 3, none⟩ u).heap[g]? = some (.cells #[a, b, c, u, e] t (0, 0)) := by rw [heap_setCell_same w g 3 _ t u h]; rfl
theorem s54 {w : World} {g : Nat} {a b c d e : Value} {t : TypeId} (h : w.heap[g]? = some (.cells #[a, b, c, d, e] t (0, 0))) (u : Value) : (w.setCell ⟨g, 4, none⟩ u).heap[g]? = some (.cells #[a, b, c, d, u] t (0, 0)) := by rw [heap_setCell_same w g 4 _ t u h]; rfl
theorem bytes_set {w : World} {o : Nat} {l : List UInt8} {p : Addr} (h : Bytes w (some ⟨o, 0, none⟩) l) (hne : p.block ≠ o) (u : Value) : Bytes (w.setCell p u) (some ⟨o, 0, none⟩) l :=
  h.keep (by simp) fun q hq _ => by
    have hq' : q.block = o := by simpa using hq.symm
    exact World.cell?_setCell_far w p q u (by rw [hq']; exact hne)
theorem DecAt.cell {w : World} {g o cap : Nat} {l : List UInt8} {x y pos : Nat} {out : Bool} (h : DecAt w g o cap l x y pos out) (hp : pos < l.length) : w.cell? ⟨o, pos, none⟩ = some (.int .u8 (l[pos].toNat : Nat)) := by
  obtain ⟨b, off, e, _, hc⟩ := h.own.addr (by omega)
  injection e with e; injection e with e1 e2; subst e1; subst e2
  have := hc pos hp
  rw [Nat.zero_add] at this; exact this
theorem DecAt.keep {w w' : World} {g o cap : Nat} {l : List UInt8} {x y pos : Nat} {out : Bool} (h : DecAt w g o cap l x y pos out) (hs : w.heap.size ≤ w'.heap.size) (hg : w'.heap[g]? = w.heap[g]?) (ho : w'.heap[o]? = w.heap[o]?) : DecAt w' g o cap l x y pos out :=
  ⟨hg.trans h.blk, h.own.keep hs fun q hq _ => by
    have hq' : q.block = o := by simpa using hq.symm
    unfold World.cell?; rw [hq', ho], h.ne, Nat.lt_of_lt_of_le h.lt hs⟩
theorem DecAt.glt {w : World} {g o cap : Nat} {l : List UInt8} {x y pos : Nat} {out : Bool} (h : DecAt w g o cap l x y pos out) : g < w.heap.size := block_lt_of_cell (c50 h.blk)
theorem DecAt.below {w w' : World} {g o cap : Nat} {l : List UInt8} {x y pos : Nat} {out : Bool} (h : DecAt w g o cap l x y pos out) (hb : Below w.heap.size w w') : DecAt w' g o cap l x y pos out :=
  h.keep hb.size (hb.block g h.glt) (hb.block o h.lt)

/-- What a call comes to that turns the decoder alone. -/
def Turned (w : World) (g o cap : Nat) (l : List UInt8) (v : Value) (x y pos : Nat) (out : Bool) (e : Ending) (w' : World) : Prop :=
  e = .returned v ∧ DecAt w' g o cap l x y pos out ∧ Only [g] w w'

theorem drew_below (w : World) : Below w.heap.size w w.drew := (Below.refl _ _).drew

set_option maxRecDepth 100000 in
set_option maxHeartbeats 1000000 in
theorem next_read (g o cap : Nat) (l : List UInt8) (x y pos : Nat) (w : World) (hE : DecAt w g o cap l x y pos false) (hp : pos < l.length) (hl : l.length ≤ 140737488355328) :
    Calls Try.prog 95 #[.pointer (some ⟨g, 0, none⟩)] w (Turned w g o cap l (B8 l[pos]) x y (pos + 1) false) := by
  have k2 := c52 hE.blk
  have k3 := c53 hE.blk
  have hne : ((pos : Int) == (l.length : Int)) = false := beq_eq_false_iff_ne.2 (by omega)
  have hpz : (pos : Int) < (l.length : Int) := by omega
  have hc := hE.cell hp
  generalize (l[pos]) = by_ at *
  generalize hL : l.length = L at *
  have HL := Lib.hid hL
  clear hL
  go_enter Try.func95, Try.ntmps95
  go_wp2_with fail
  refine wp_region_held_drew (S := fun w' => w'.cell? ⟨g, 2, none⟩ = some (.slice (some ⟨o, 0, none⟩) L cap) ∧ w'.cell? ⟨g, 3, none⟩ = some (.int .i64 (pos : Nat))) (by kernel_rfl) ⟨k2, k3⟩ (fun hS => ?_)
  refine wpAnyH_take (i := 0) (oi := { dst := some 3, op := Op.move (Operand.tmp 0), type := 55, pos := "rcdec.go:108", after := #[], guard := none }) (v := ?vn1) rfl (by kernel_rfl) (by kernel_rfl) (by kernel_rfl) (fun _ _ _ h => h) (Or.inl ⟨by rfl, ?yn1⟩) hS ?_
  case yn1 =>
    intro w hSw
    go_simp; all_goals (with_reducible rfl)
  simp only [Act.put, List.setIfInBounds_toArray, List.set_cons_zero, List.set_cons_succ]
  refine wpAnyH_take (i := 1) (oi := { dst := some 4, op := Op.nilCheck (Operand.tmp 3), type := 0, pos := "rcdec.go:108", after := #[{ on := 0, ground := Ground.data }], guard := none }) (v := ?vn2) rfl (by kernel_rfl) (by kernel_rfl) (by kernel_rfl) (fun _ _ _ h => h) (Or.inl ⟨by rfl, ?yn2⟩) hS ?_
  case yn2 =>
    intro w hSw
    go_simp; all_goals (with_reducible rfl)
  simp only [Act.put, List.setIfInBounds_toArray, List.set_cons_zero, List.set_cons_succ]
  refine wpAnyH_take (i := 2) (oi := { dst := some 5, op := Op.fieldAddr 91 (Operand.tmp 4) 3, type := 0, pos := "rcdec.go:108", after := #[{ on := 1, ground := Ground.data }], guard := none }) (v := ?vn3) rfl (by kernel_rfl) (by kernel_rfl) (by kernel_rfl) (fun _ _ _ h => h) (Or.inl ⟨by rfl, ?yn3⟩) hS ?_
  case yn3 =>
    intro w hSw
    go_simp; all_goals (with_reducible rfl)
  simp only [Act.put, List.setIfInBounds_toArray, List.set_cons_zero, List.set_cons_succ]
  refine wpAnyH_take (i := 3) (oi := { dst := some 6, op := Op.load 3 (Operand.tmp 5), type := 3, pos := "rcdec.go:108", after := #[{ on := 2, ground := Ground.data }], guard := none }) (v := ?vn4) rfl (by kernel_rfl) (by kernel_rfl) (by kernel_rfl) (fun _ _ _ h => h) (Or.inl ⟨by rfl, ?yn4⟩) hS ?_
  case yn4 =>
    intro w hSw
    obtain ⟨j2, j3⟩ := hSw
    go_simp; all_goals (with_reducible rfl)
  simp only [Act.put, List.setIfInBounds_toArray, List.set_cons_zero, List.set_cons_succ]
  refine wpAnyH_take (i := 4) (oi := { dst := some 7, op := Op.move (Operand.tmp 0), type := 55, pos := "rcdec.go:108", after := #[], guard := none }) (v := ?vn5) rfl (by kernel_rfl) (by kernel_rfl) (by kernel_rfl) (fun _ _ _ h => h) (Or.inl ⟨by rfl, ?yn5⟩) hS ?_
  case yn5 =>
    intro w hSw
    go_simp; all_goals (with_reducible rfl)
  simp only [Act.put, List.setIfInBounds_toArray, List.set_cons_zero, List.set_cons_succ]
  refine wpAnyH_take (i := 5) (oi := { dst := some 8, op := Op.nilCheck (Operand.tmp 7), type := 0, pos := "rcdec.go:108", after := #[{ on := 4, ground := Ground.data }], guard := none }) (v := ?vn6) rfl (by kernel_rfl) (by kernel_rfl) (by kernel_rfl) (fun _ _ _ h => h) (Or.inl ⟨by rfl, ?yn6⟩) hS ?_
  case yn6 =>
    intro w hSw
    go_simp; all_goals (with_reducible rfl)
  simp only [Act.put, List.setIfInBounds_toArray, List.set_cons_zero, List.set_cons_succ]
  refine wpAnyH_take (i := 6) (oi := { dst := some 9, op := Op.fieldAddr 91 (Operand.tmp 8) 2, type := 0, pos := "rcdec.go:108", after := #[{ on := 5, ground := Ground.data }], guard := none }) (v := ?vn7) rfl (by kernel_rfl) (by kernel_rfl) (by kernel_rfl) (fun _ _ _ h => h) (Or.inl ⟨by rfl, ?yn7⟩) hS ?_
  case yn7 =>
    intro w hSw
    go_simp; all_goals (with_reducible rfl)
  simp only [Act.put, List.setIfInBounds_toArray, List.set_cons_zero, List.set_cons_succ]
  refine wpAnyH_take (i := 7) (oi := { dst := some 10, op := Op.load 22 (Operand.tmp 9), type := 22, pos := "rcdec.go:108", after := #[{ on := 6, ground := Ground.data }], guard := none }) (v := ?vn8) rfl (by kernel_rfl) (by kernel_rfl) (by kernel_rfl) (fun _ _ _ h => h) (Or.inl ⟨by rfl, ?yn8⟩) hS ?_
  case yn8 =>
    intro w hSw
    obtain ⟨j2, j3⟩ := hSw
    go_simp; all_goals (with_reducible rfl)
  simp only [Act.put, List.setIfInBounds_toArray, List.set_cons_zero, List.set_cons_succ]
  refine wpAnyH_take (i := 8) (oi := { dst := some 11, op := Op.call { callee := Callee.builtin Builtin.len, args := #[Operand.tmp 10], argTypes := #[22] }, type := 3, pos := "rcdec.go:108", after := #[{ on := 7, ground := Ground.data }], guard := none }) (v := ?vn9) rfl (by kernel_rfl) (by kernel_rfl) (by kernel_rfl) (fun _ _ _ h => h) (Or.inl ⟨by rfl, ?yn9⟩) hS ?_
  case yn9 =>
    intro w hSw
    go_simp; all_goals (with_reducible rfl)
  simp only [Act.put, List.setIfInBounds_toArray, List.set_cons_zero, List.set_cons_succ]
  refine wpAnyH_take (i := 9) (oi := { dst := some 12, op := Op.binOp BinOp.eql 3 (Operand.tmp 6) (Operand.tmp 11) 3, type := 4, pos := "rcdec.go:108", after := #[{ on := 3, ground := Ground.data }, { on := 8, ground := Ground.data }], guard := none }) (v := ?vn10) rfl (by kernel_rfl) (by kernel_rfl) (by kernel_rfl) (fun _ _ _ h => h) (Or.inl ⟨by rfl, ?yn10⟩) hS ?_
  case yn10 =>
    intro w hSw
    go_simp; all_goals (with_reducible rfl)
  simp only [Act.put, List.setIfInBounds_toArray, List.set_cons_zero, List.set_cons_succ]
  refine wpAnyH_done (by kernel_rfl) ?_ _
  have hEd := hE.below (drew_below w)
  have hond : Only [g] w w.drew := (Only.refl _ _).drew
  have hcd : w.drew.cell? ⟨o, pos, none⟩ = some (B8 by_) := hc
  clear hE k2 k3 hc
  generalize w.drew = wd at *
  have k2 := c52 hEd.blk
  have k3 := c53 hEd.blk
  have f3 := frozen_of_row wd g 3 _ _ hEd.blk
  rw [HL.out] at k2
  have hE1 : DecAt (wd.setCell ⟨g, 3, none⟩ (.int .i64 ((pos + 1 : Nat) : Int))) g o cap l x y (pos + 1) false := ⟨s53 hEd.blk _, bytes_set hEd.own hEd.ne _, hEd.ne, by simpa using hEd.lt⟩
  have hon : Only [g] w (wd.setCell ⟨g, 3, none⟩ (.int .i64 ((pos + 1 : Nat) : Int))) := hond.setCell (.inl (by simp)) _
  have kc : (wd.setCell ⟨g, 3, none⟩ (.int .i64 ((pos + 1 : Nat) : Int))).cell? ⟨o, pos, none⟩ = some (B8 by_) := (World.cell?_setCell_far wd _ _ _ hEd.ne).trans hcd
  have q2 := c52 hE1.blk
  have q3 := c53 hE1.blk
  have hsum : ((pos + 1 : Nat) : Int) = (pos : Int) + 1 := by omega
  rw [hsum] at hon kc q2 q3
  rw [HL.out] at q2
  have hE2 : DecAt (wd.setCell ⟨g, 3, none⟩ (.int .i64 ((pos : Int) + 1))) g o cap l x y (pos + 1) false := by rw [← hsum]; exact hE1
  clear hE1 hsum
  generalize hw1 : wd.setCell ⟨g, 3, none⟩ (.int .i64 ((pos : Int) + 1)) = w1 at *
  have HW1 := Lib.hid hw1
  clear hw1
  go_upto_region 5 with (fail)
  rw [HW1.out]
  clear k2 k3 f3 hcd hond hEd HW1
  have hwp : IntKind.i64.wrap (pos : Int) = (pos : Int) := IntWalk.i64_in _ (by omega)
  refine wp_region_held_drew (S := fun w' => w'.cell? ⟨g, 2, none⟩ = some (.slice (some ⟨o, 0, none⟩) L cap) ∧ w'.cell? ⟨g, 3, none⟩ = some (.int .i64 ((pos : Int) + 1)) ∧ w'.cell? ⟨o, pos, none⟩ = some (B8 by_)) (by kernel_rfl) ⟨q2, q3, kc⟩ (fun hS => ?_)
  refine wpAnyH_take (i := 0) (oi := { dst := some 23, op := Op.move (Operand.tmp 0), type := 55, pos := "rcdec.go:113", after := #[], guard := none }) (v := ?vm11) rfl (by kernel_rfl) (by kernel_rfl) (by kernel_rfl) (fun _ _ _ h => h) (Or.inl ⟨by rfl, ?ym11⟩) hS ?_
  case ym11 =>
    intro w hSw
    go_simp; all_goals (with_reducible rfl)
  simp only [Act.put, List.setIfInBounds_toArray, List.set_cons_zero, List.set_cons_succ]
  refine wpAnyH_take (i := 1) (oi := { dst := some 24, op := Op.nilCheck (Operand.tmp 23), type := 0, pos := "rcdec.go:113", after := #[{ on := 0, ground := Ground.data }], guard := none }) (v := ?vm12) rfl (by kernel_rfl) (by kernel_rfl) (by kernel_rfl) (fun _ _ _ h => h) (Or.inl ⟨by rfl, ?ym12⟩) hS ?_
  case ym12 =>
    intro w hSw
    go_simp; all_goals (with_reducible rfl)
  simp only [Act.put, List.setIfInBounds_toArray, List.set_cons_zero, List.set_cons_succ]
  refine wpAnyH_take (i := 2) (oi := { dst := some 25, op := Op.fieldAddr 91 (Operand.tmp 24) 2, type := 0, pos := "rcdec.go:113", after := #[{ on := 1, ground := Ground.data }], guard := none }) (v := ?vm13) rfl (by kernel_rfl) (by kernel_rfl) (by kernel_rfl) (fun _ _ _ h => h) (Or.inl ⟨by rfl, ?ym13⟩) hS ?_
  case ym13 =>
    intro w hSw
    go_simp; all_goals (with_reducible rfl)
  simp only [Act.put, List.setIfInBounds_toArray, List.set_cons_zero, List.set_cons_succ]
  refine wpAnyH_take (i := 3) (oi := { dst := some 26, op := Op.load 22 (Operand.tmp 25), type := 22, pos := "rcdec.go:113", after := #[{ on := 2, ground := Ground.data }], guard := none }) (v := ?vm14) rfl (by kernel_rfl) (by kernel_rfl) (by kernel_rfl) (fun _ _ _ h => h) (Or.inl ⟨by rfl, ?ym14⟩) hS ?_
  case ym14 =>
    intro w hSw
    obtain ⟨j2, j3, j4⟩ := hSw
    go_simp; all_goals (with_reducible rfl)
  simp only [Act.put, List.setIfInBounds_toArray, List.set_cons_zero, List.set_cons_succ]
  refine wpAnyH_take (i := 4) (oi := { dst := some 27, op := Op.move (Operand.tmp 0), type := 55, pos := "rcdec.go:113", after := #[], guard := none }) (v := ?vm15) rfl (by kernel_rfl) (by kernel_rfl) (by kernel_rfl) (fun _ _ _ h => h) (Or.inl ⟨by rfl, ?ym15⟩) hS ?_
  case ym15 =>
    intro w hSw
    go_simp; all_goals (with_reducible rfl)
  simp only [Act.put, List.setIfInBounds_toArray, List.set_cons_zero, List.set_cons_succ]
  refine wpAnyH_take (i := 5) (oi := { dst := some 28, op := Op.nilCheck (Operand.tmp 27), type := 0, pos := "rcdec.go:113", after := #[{ on := 4, ground := Ground.data }], guard := none }) (v := ?vm16) rfl (by kernel_rfl) (by kernel_rfl) (by kernel_rfl) (fun _ _ _ h => h) (Or.inl ⟨by rfl, ?ym16⟩) hS ?_
  case ym16 =>
    intro w hSw
    go_simp; all_goals (with_reducible rfl)
  simp only [Act.put, List.setIfInBounds_toArray, List.set_cons_zero, List.set_cons_succ]
  refine wpAnyH_take (i := 6) (oi := { dst := some 29, op := Op.fieldAddr 91 (Operand.tmp 28) 3, type := 0, pos := "rcdec.go:113", after := #[{ on := 5, ground := Ground.data }], guard := none }) (v := ?vm17) rfl (by kernel_rfl) (by kernel_rfl) (by kernel_rfl) (fun _ _ _ h => h) (Or.inl ⟨by rfl, ?ym17⟩) hS ?_
  case ym17 =>
    intro w hSw
    go_simp; all_goals (with_reducible rfl)
  simp only [Act.put, List.setIfInBounds_toArray, List.set_cons_zero, List.set_cons_succ]
  refine wpAnyH_take (i := 7) (oi := { dst := some 30, op := Op.load 3 (Operand.tmp 29), type := 3, pos := "rcdec.go:113", after := #[{ on := 6, ground := Ground.data }], guard := none }) (v := ?vm18) rfl (by kernel_rfl) (by kernel_rfl) (by kernel_rfl) (fun _ _ _ h => h) (Or.inl ⟨by rfl, ?ym18⟩) hS ?_
  case ym18 =>
    intro w hSw
    obtain ⟨j2, j3, j4⟩ := hSw
    go_simp; all_goals (with_reducible rfl)
  simp only [Act.put, List.setIfInBounds_toArray, List.set_cons_zero, List.set_cons_succ]
  refine wpAnyH_take (i := 8) (oi := { dst := some 31, op := Op.binOp BinOp.sub 3 (Operand.tmp 30) (Operand.const (Value.int IntKind.i64 1)) 3, type := 3, pos := "rcdec.go:113", after := #[{ on := 7, ground := Ground.data }], guard := none }) (v := ?vm19) rfl (by kernel_rfl) (by kernel_rfl) (by kernel_rfl) (fun _ _ _ h => h) (Or.inl ⟨by rfl, ?ym19⟩) hS ?_
  case ym19 =>
    intro w hSw
    go_simp; all_goals (with_reducible rfl)
  simp only [Act.put, List.setIfInBounds_toArray, List.set_cons_zero, List.set_cons_succ]
  refine wpAnyH_take (i := 9) (oi := { dst := some 32, op := Op.indexAddr 22 (Operand.tmp 26) (Operand.tmp 31), type := 0, pos := "rcdec.go:113", after := #[{ on := 3, ground := Ground.data }, { on := 8, ground := Ground.data }], guard := none }) (v := ?vm20) rfl (by kernel_rfl) (by kernel_rfl) (by kernel_rfl) (fun _ _ _ h => h) (Or.inl ⟨by rfl, ?ym20⟩) hS ?_
  case ym20 =>
    intro w hSw
    go_simp; all_goals (with_reducible rfl)
  simp only [Act.put, List.setIfInBounds_toArray, List.set_cons_zero, List.set_cons_succ]
  refine wpAnyH_take (i := 10) (oi := { dst := some 33, op := Op.load 5 (Operand.tmp 32), type := 5, pos := "rcdec.go:113", after := #[{ on := 9, ground := Ground.data }], guard := none }) (v := ?vm21) rfl (by kernel_rfl) (by kernel_rfl) (by kernel_rfl) (fun _ _ _ h => h) (Or.inl ⟨by rfl, ?ym21⟩) hS ?_
  case ym21 =>
    intro w hSw
    obtain ⟨j2, j3, j4⟩ := hSw
    go_simp; all_goals (with_reducible rfl)
  simp only [Act.put, List.setIfInBounds_toArray, List.set_cons_zero, List.set_cons_succ]
  refine wpAnyH_take (i := 11) (oi := { dst := some 2, op := Op.assign (Operand.tmp 33), type := 5, pos := "rcdec.go:113", after := #[{ on := 10, ground := Ground.data }, { on := 0, ground := Ground.phase }, { on := 1, ground := Ground.phase }, { on := 2, ground := Ground.phase }, { on := 3, ground := Ground.phase }, { on := 4, ground := Ground.phase }, { on := 5, ground := Ground.phase }, { on := 6, ground := Ground.phase }, { on := 7, ground := Ground.phase }, { on := 8, ground := Ground.phase }, { on := 9, ground := Ground.phase }, { on := 10, ground := Ground.phase }], guard := none }) (v := ?vm22) rfl (by kernel_rfl) (by kernel_rfl) (by kernel_rfl) (fun _ _ _ h => h) (Or.inl ⟨by rfl, ?ym22⟩) hS ?_
  case ym22 =>
    intro w hSw
    go_simp; all_goals (with_reducible rfl)
  simp only [Act.put, List.setIfInBounds_toArray, List.set_cons_zero, List.set_cons_succ]
  refine wpAnyH_done (by kernel_rfl) ?_ _
  go_wp2_with fail
  go_ret
  exact ⟨rfl, hE2.below (drew_below _), hon.drew⟩

set_option maxRecDepth 100000 in
set_option maxHeartbeats 1000000 in
theorem next_out (g o cap : Nat) (l : List UInt8) (x y : Nat) (w : World) (hE : DecAt w g o cap l x y l.length false) :
    Calls Try.prog 95 #[.pointer (some ⟨g, 0, none⟩)] w (Turned w g o cap l (.int .u8 0) x y l.length true) := by
  have k2 := c52 hE.blk
  have k3 := c53 hE.blk
  have hEd := hE.below (drew_below w)
  have hond : Only [g] w w.drew := (Only.refl _ _).drew
  have f4 := frozen_of_row w.drew g 4 _ _ hEd.blk
  have k4 := c54 hEd.blk
  have hE1 : DecAt (w.drew.setCell ⟨g, 4, none⟩ (.bool true)) g o cap l x y l.length true := ⟨s54 hEd.blk _, bytes_set hEd.own hEd.ne _, hEd.ne, by simpa using hEd.lt⟩
  have hon : Only [g] w (w.drew.setCell ⟨g, 4, none⟩ (.bool true)) := hond.setCell (.inl (by simp)) _
  generalize hL : l.length = L at *
  have HL := Lib.hid hL
  clear hL hEd hond
  go_enter Try.func95, Try.ntmps95
  go_wp2_with fail
  refine wp_region_held_drew (S := fun w' => w'.cell? ⟨g, 2, none⟩ = some (.slice (some ⟨o, 0, none⟩) L cap) ∧ w'.cell? ⟨g, 3, none⟩ = some (.int .i64 (L : Nat))) (by kernel_rfl) ⟨k2, k3⟩ (fun hS => ?_)
  refine wpAnyH_take (i := 0) (oi := { dst := some 3, op := Op.move (Operand.tmp 0), type := 55, pos := "rcdec.go:108", after := #[], guard := none }) (v := ?vk23) rfl (by kernel_rfl) (by kernel_rfl) (by kernel_rfl) (fun _ _ _ h => h) (Or.inl ⟨by rfl, ?yk23⟩) hS ?_
  case yk23 =>
    intro w hSw
    go_simp; all_goals (with_reducible rfl)
  simp only [Act.put, List.setIfInBounds_toArray, List.set_cons_zero, List.set_cons_succ]
  refine wpAnyH_take (i := 1) (oi := { dst := some 4, op := Op.nilCheck (Operand.tmp 3), type := 0, pos := "rcdec.go:108", after := #[{ on := 0, ground := Ground.data }], guard := none }) (v := ?vk24) rfl (by kernel_rfl) (by kernel_rfl) (by kernel_rfl) (fun _ _ _ h => h) (Or.inl ⟨by rfl, ?yk24⟩) hS ?_
  case yk24 =>
    intro w hSw
    go_simp; all_goals (with_reducible rfl)
  simp only [Act.put, List.setIfInBounds_toArray, List.set_cons_zero, List.set_cons_succ]
  refine wpAnyH_take (i := 2) (oi := { dst := some 5, op := Op.fieldAddr 91 (Operand.tmp 4) 3, type := 0, pos := "rcdec.go:108", after := #[{ on := 1, ground := Ground.data }], guard := none }) (v := ?vk25) rfl (by kernel_rfl) (by kernel_rfl) (by kernel_rfl) (fun _ _ _ h => h) (Or.inl ⟨by rfl, ?yk25⟩) hS ?_
  case yk25 =>
    intro w hSw
    go_simp; all_goals (with_reducible rfl)
  simp only [Act.put, List.setIfInBounds_toArray, List.set_cons_zero, List.set_cons_succ]
  refine wpAnyH_take (i := 3) (oi := { dst := some 6, op := Op.load 3 (Operand.tmp 5), type := 3, pos := "rcdec.go:108", after := #[{ on := 2, ground := Ground.data }], guard := none }) (v := ?vk26) rfl (by kernel_rfl) (by kernel_rfl) (by kernel_rfl) (fun _ _ _ h => h) (Or.inl ⟨by rfl, ?yk26⟩) hS ?_
  case yk26 =>
    intro w hSw
    obtain ⟨j2, j3⟩ := hSw
    go_simp; all_goals (with_reducible rfl)
  simp only [Act.put, List.setIfInBounds_toArray, List.set_cons_zero, List.set_cons_succ]
  refine wpAnyH_take (i := 4) (oi := { dst := some 7, op := Op.move (Operand.tmp 0), type := 55, pos := "rcdec.go:108", after := #[], guard := none }) (v := ?vk27) rfl (by kernel_rfl) (by kernel_rfl) (by kernel_rfl) (fun _ _ _ h => h) (Or.inl ⟨by rfl, ?yk27⟩) hS ?_
  case yk27 =>
    intro w hSw
    go_simp; all_goals (with_reducible rfl)
  simp only [Act.put, List.setIfInBounds_toArray, List.set_cons_zero, List.set_cons_succ]
  refine wpAnyH_take (i := 5) (oi := { dst := some 8, op := Op.nilCheck (Operand.tmp 7), type := 0, pos := "rcdec.go:108", after := #[{ on := 4, ground := Ground.data }], guard := none }) (v := ?vk28) rfl (by kernel_rfl) (by kernel_rfl) (by kernel_rfl) (fun _ _ _ h => h) (Or.inl ⟨by rfl, ?yk28⟩) hS ?_
  case yk28 =>
    intro w hSw
    go_simp; all_goals (with_reducible rfl)
  simp only [Act.put, List.setIfInBounds_toArray, List.set_cons_zero, List.set_cons_succ]
  refine wpAnyH_take (i := 6) (oi := { dst := some 9, op := Op.fieldAddr 91 (Operand.tmp 8) 2, type := 0, pos := "rcdec.go:108", after := #[{ on := 5, ground := Ground.data }], guard := none }) (v := ?vk29) rfl (by kernel_rfl) (by kernel_rfl) (by kernel_rfl) (fun _ _ _ h => h) (Or.inl ⟨by rfl, ?yk29⟩) hS ?_
  case yk29 =>
    intro w hSw
    go_simp; all_goals (with_reducible rfl)
  simp only [Act.put, List.setIfInBounds_toArray, List.set_cons_zero, List.set_cons_succ]
  refine wpAnyH_take (i := 7) (oi := { dst := some 10, op := Op.load 22 (Operand.tmp 9), type := 22, pos := "rcdec.go:108", after := #[{ on := 6, ground := Ground.data }], guard := none }) (v := ?vk30) rfl (by kernel_rfl) (by kernel_rfl) (by kernel_rfl) (fun _ _ _ h => h) (Or.inl ⟨by rfl, ?yk30⟩) hS ?_
  case yk30 =>
    intro w hSw
    obtain ⟨j2, j3⟩ := hSw
    go_simp; all_goals (with_reducible rfl)
  simp only [Act.put, List.setIfInBounds_toArray, List.set_cons_zero, List.set_cons_succ]
  refine wpAnyH_take (i := 8) (oi := { dst := some 11, op := Op.call { callee := Callee.builtin Builtin.len, args := #[Operand.tmp 10], argTypes := #[22] }, type := 3, pos := "rcdec.go:108", after := #[{ on := 7, ground := Ground.data }], guard := none }) (v := ?vk31) rfl (by kernel_rfl) (by kernel_rfl) (by kernel_rfl) (fun _ _ _ h => h) (Or.inl ⟨by rfl, ?yk31⟩) hS ?_
  case yk31 =>
    intro w hSw
    go_simp; all_goals (with_reducible rfl)
  simp only [Act.put, List.setIfInBounds_toArray, List.set_cons_zero, List.set_cons_succ]
  refine wpAnyH_take (i := 9) (oi := { dst := some 12, op := Op.binOp BinOp.eql 3 (Operand.tmp 6) (Operand.tmp 11) 3, type := 4, pos := "rcdec.go:108", after := #[{ on := 3, ground := Ground.data }, { on := 8, ground := Ground.data }], guard := none }) (v := ?vk32) rfl (by kernel_rfl) (by kernel_rfl) (by kernel_rfl) (fun _ _ _ h => h) (Or.inl ⟨by rfl, ?yk32⟩) hS ?_
  case yk32 =>
    intro w hSw
    go_simp; all_goals (with_reducible rfl)
  simp only [Act.put, List.setIfInBounds_toArray, List.set_cons_zero, List.set_cons_succ]
  refine wpAnyH_done (by kernel_rfl) ?_ _
  clear hE k2 k3
  generalize w.drew = wd at *
  go_wp2_with fail
  go_ret
  exact ⟨rfl, hE1, hon⟩
end Go.Proofs.Ytiodlhieaajcgaa

/- The walk over the decoder's shift. -/
namespace Go.Proofs.Ytiodlhieaajcgaa
open Go.RowKit

/-- The decoder is in a state: of one that is out, Code and Range are not told. -/
def DecIs (w : World) (g o cap : Nat) (l : List UInt8) (s : Rd.St) : Prop := ∃ x y : Nat, (s.out = false → x = s.c ∧ y = s.r) ∧ DecAt w g o cap l x y s.pos s.out
theorem Only.undrew {X : List Nat} {a b : World} (h : Only X a.drew b) : Only X a b := ⟨h.os, h.tape, h.output, h.size, h.block⟩
def Moved (w : World) (g o cap : Nat) (l : List UInt8) (s : Rd.St) (w' : World) : Prop := DecIs w' g o cap l s ∧ Only [g] w w'

theorem or_low (c b : Nat) (hb : b < 256) : c * 256 % 4294967296 ||| b = (256 * c + b) % 4294967296 := by
  have e1 : c * 256 % 4294967296 = (c % 16777216) <<< 8 := by rw [Nat.shiftLeft_eq]; omega
  rw [e1, ← Nat.shiftLeft_add_eq_or_of_lt (by simpa using hb), Nat.shiftLeft_eq]; omega
theorem code_step (c b : Nat) (hb : b < 256) : bits .or .u32 (IntKind.u32.wrap ((c : Int) * 256)) (IntKind.u32.wrap (b : Int)) = (((256 * c + b) % 4294967296 : Nat) : Int) := by
  have e1 : IntKind.u32.wrap ((c : Int) * 256) = ((c * 256 % 4294967296 : Nat) : Int) := by rw [IntKind.wrap_u32]; omega
  have e2 : IntKind.u32.wrap (b : Int) = (b : Int) := by rw [IntKind.wrap_u32]; omega
  rw [e1, e2, u32_or_nat _ _ (Nat.mod_lt _ (by omega)) (by omega), or_low _ _ hb]

set_option maxRecDepth 100000 in
set_option maxHeartbeats 1000000 in
theorem dshift_any (N g o cap : Nat) (l : List UInt8) (s : Rd.St) (w : World) (hE : DecIs w g o cap l s) (hf : s.fits l) (hl : l.length ≤ 140737488355328) (hr : s.out = false → 16777216 ≤ s.r * 256 ^ N) :
    Calls Try.prog 93 #[.pointer (some ⟨g, 0, none⟩)] w (Did (Moved w g o cap l (Rd.scale l N s))) := by
  go_enter Try.func93, Try.ntmps93
  go_wp2_with fail
  go_loopg [16] N (fun gk s16 wr => ∃ (t : Rd.St), DecIs wr g o cap l t ∧ t.fits l ∧ Hid (t.out = false → 16777216 ≤ t.r * 256 ^ gk) ∧ Hid (Rd.scale l N s = Rd.scale l gk t) ∧ Only [g] w wr)
  case atStart => exact ⟨s, hE, hf, hr, rfl, Only.refl _ _⟩
  case round =>
    obtain ⟨t, ⟨x, y, hxy, hT⟩, hft, hrt, hsc, hon⟩ := hrel
    clear hE hf hr
    obtain ⟨pos, c, r, out⟩ := t
    have k0 := c50 hT.blk
    have k1 := c51 hT.blk
    have k2 := c52 hT.blk
    have k3 := c53 hT.blk
    have k4 := c54 hT.blk
    have f0 := frozen_of_row wr g 0 _ _ hT.blk
    have f1 := frozen_of_row wr g 1 _ _ hT.blk
    simp only at k0 k1 k2 k3 k4
    cases out with
    | true =>
      have hst : Rd.scale l gk ⟨pos, c, r, true⟩ = ⟨pos, c, r, true⟩ := Rd.scale_out rfl
      have HST := Lib.hid (hsc.out.trans hst)
      clear hst hxy hrt hsc hft
      by_cases hy : y < 16777216
      · have hy' : (y : Int) < 16777216 := by omega
        go_wp2_with fail
        go_end0
        exact ⟨rfl, by rw [HST.out]; exact ⟨x, y, by simp, hT⟩, hon⟩
      · have hy' : ¬ (y : Int) < 16777216 := by omega
        go_wp2_with fail
        go_end0
        exact ⟨rfl, by rw [HST.out]; exact ⟨x, y, by simp, hT⟩, hon⟩
    | false =>
      obtain rfl : c = x := (hxy rfl).1.symm
      obtain rfl : r = y := (hxy rfl).2.symm
      simp only at hT k0 k1 hft
      by_cases hy : r < 16777216
      · have hy' : (r : Int) < 16777216 := by omega
        cases gk with
        | zero => have := hrt.out rfl; simp at this; omega
        | succ gk =>
          have hstep := Rd.scale_step (l := l) (N := gk) (s := ⟨pos, c, r, false⟩) rfl hy
          have HST := Lib.hid (hsc.out.trans hstep)
          clear hstep
          have hT1 : DecAt (wr.setCell ⟨g, 1, none⟩ (.int .u32 ((r * 256 : Nat) : Int))) g o cap l c (r * 256) pos false := ⟨s51 hT.blk _, bytes_set hT.own hT.ne _, hT.ne, by simpa using hT.lt⟩
          have hon1 : Only [g] w (wr.setCell ⟨g, 1, none⟩ (.int .u32 ((r * 256 : Nat) : Int))) := hon.setCell (.inl (by simp)) _
          have hmul : ((r * 256 : Nat) : Int) = (r : Int) * 256 := by omega
          rw [hmul] at hon1
          have hT2 : DecAt (wr.setCell ⟨g, 1, none⟩ (.int .u32 ((r : Int) * 256))) g o cap l c (r * 256) pos false := by rw [← hmul]; exact hT1
          clear hT1
          generalize hw1 : wr.setCell ⟨g, 1, none⟩ (.int .u32 ((r : Int) * 256)) = w1 at *
          have HW1 := Lib.hid hw1
          have hnx : 16777216 ≤ r * 256 * 256 ^ gk := by
            have := hrt.out rfl
            rw [Nat.pow_succ, Nat.mul_comm (256 ^ gk), ← Nat.mul_assoc] at this; exact this
          have HNX := Lib.hid hnx
          clear hw1 hmul hxy hrt hsc hnx
          go_upto_region 3 with (fail)
          rw [HW1.out]
          have k0d : w1.drew.cell? ⟨g, 0, none⟩ = some (.int .u32 (c : Nat)) := c50 hT2.blk
          clear k0 k1 k2 k3 k4 f0 f1 hT HW1 hon
          by_cases hp : pos < l.length
          · have hcall := Lib.hid (next_read g o cap l c (r * 256) pos w1.drew (hT2.below (drew_below _)) hp hl)
            refine wp_region_held_drew (S := fun _ => True) (by kernel_rfl) trivial (fun hS => ?_)
            refine wpAnyH_take (i := 0) (oi := { dst := some 24, op := Op.move (Operand.tmp 0), type := 55, pos := "rcdec.go:102", after := #[], guard := none }) (v := ?va1) rfl (by kernel_rfl) (by kernel_rfl) (by kernel_rfl) (fun _ _ _ h => h) (Or.inl ⟨by rfl, ?ya1⟩) hS ?_
            case ya1 =>
              intro w hSw
              go_simp; all_goals (with_reducible rfl)
            simp only [Act.put, List.setIfInBounds_toArray, List.set_cons_zero, List.set_cons_succ]
            refine wpAnyH_take (i := 1) (oi := { dst := some 25, op := Op.move (Operand.tmp 0), type := 55, pos := "rcdec.go:102", after := #[], guard := none }) (v := ?va2) rfl (by kernel_rfl) (by kernel_rfl) (by kernel_rfl) (fun _ _ _ h => h) (Or.inl ⟨by rfl, ?ya2⟩) hS ?_
            case ya2 =>
              intro w hSw
              go_simp; all_goals (with_reducible rfl)
            simp only [Act.put, List.setIfInBounds_toArray, List.set_cons_zero, List.set_cons_succ]
            refine wpAnyH_take (i := 2) (oi := { dst := some 26, op := Op.nilCheck (Operand.tmp 25), type := 0, pos := "rcdec.go:102", after := #[{ on := 1, ground := Ground.data }], guard := none }) (v := ?va3) rfl (by kernel_rfl) (by kernel_rfl) (by kernel_rfl) (fun _ _ _ h => h) (Or.inl ⟨by rfl, ?ya3⟩) hS ?_
            case ya3 =>
              intro w hSw
              go_simp; all_goals (with_reducible rfl)
            simp only [Act.put, List.setIfInBounds_toArray, List.set_cons_zero, List.set_cons_succ]
            refine wpAnyH_take (i := 3) (oi := { dst := some 27, op := Op.fieldAddr 91 (Operand.tmp 26) 0, type := 0, pos := "rcdec.go:102", after := #[{ on := 2, ground := Ground.data }], guard := none }) (v := ?va4) rfl (by kernel_rfl) (by kernel_rfl) (by kernel_rfl) (fun _ _ _ h => h) (Or.inl ⟨by rfl, ?ya4⟩) hS ?_
            case ya4 =>
              intro w hSw
              go_simp; all_goals (with_reducible rfl)
            simp only [Act.put, List.setIfInBounds_toArray, List.set_cons_zero, List.set_cons_succ]
            refine wpAnyH_take (i := 6) (oi := { dst := some 30, op := Op.move (Operand.tmp 2), type := 135, pos := "rcdec.go:102", after := #[], guard := none }) (v := ?va5) rfl (by kernel_rfl) (by kernel_rfl) (by kernel_rfl) (fun _ _ _ h => h) (Or.inl ⟨by rfl, ?ya5⟩) hS ?_
            case ya5 =>
              intro w hSw
              go_simp; all_goals (with_reducible rfl)
            simp only [Act.put, List.setIfInBounds_toArray, List.set_cons_zero, List.set_cons_succ]
            refine wpAnyH_ready (rs := [4, 7]) (by kernel_rfl) (by simp) ?_
            refine (AllReadyH.cons (o := { dst := some 28, op := Op.load 78 (Operand.tmp 27), type := 78, pos := "rcdec.go:102", after := #[{ on := 3, ground := Ground.data }], guard := none }) rfl (fun K hK => ?_) (AllReadyH.cons (o := { dst := some 31, op := Op.call { callee := Callee.value (Operand.tmp 30), args := #[], argTypes := #[] }, type := 5, pos := "rcdec.go:102", after := #[{ on := 6, ground := Ground.data }], guard := none }) rfl (fun K hK => ?_) AllReadyH.nil))
            · skip
              go_simp
              refine hK.out _ _ trivial (fun _ => ?_)
              clear hK K
              refine wpAnyH_take (i := 5) (oi := { dst := some 29, op := Op.binOp BinOp.shl 78 (Operand.tmp 28) (Operand.const (Value.int IntKind.u64 8)) 89, type := 78, pos := "rcdec.go:102", after := #[{ on := 4, ground := Ground.data }], guard := none }) (v := ?va6) rfl (by kernel_rfl) (by kernel_rfl) (by kernel_rfl) (fun _ _ _ h => h) (Or.inl ⟨by rfl, ?ya6⟩) trivial ?_
              case ya6 =>
                intro w hSw
                go_simp; all_goals (with_reducible rfl)
              simp only [Act.put, List.setIfInBounds_toArray, List.set_cons_zero, List.set_cons_succ]
              refine wpAnyH_ready (rs := [7]) (by kernel_rfl) (by simp) ?_
              refine (AllReadyH.cons (o := { dst := some 31, op := Op.call { callee := Callee.value (Operand.tmp 30), args := #[], argTypes := #[] }, type := 5, pos := "rcdec.go:102", after := #[{ on := 6, ground := Ground.data }], guard := none }) rfl (fun K hK => ?_) AllReadyH.nil)
              go_simp
              refine hcall.out.mono ?_
              rintro e w3 ⟨rfl, hT3, hon3⟩
              have hj := c50 hT3.blk
              have fj := frozen_of_row w3 g 0 _ _ hT3.blk
              go_wp2_with fail
              refine hK.out _ _ trivial (fun _ => ?_)
              clear hK K
              refine wpAnyH_take (i := 8) (oi := { dst := some 32, op := Op.convert 5 78 (Operand.tmp 31), type := 78, pos := "rcdec.go:102", after := #[{ on := 7, ground := Ground.data }], guard := none }) (v := ?va7) rfl (by kernel_rfl) (by kernel_rfl) (by kernel_rfl) (fun _ _ _ h => h) (Or.inl ⟨by rfl, ?ya7⟩) trivial ?_
              case ya7 =>
                intro w hSw
                go_simp; all_goals (with_reducible rfl)
              simp only [Act.put, List.setIfInBounds_toArray, List.set_cons_zero, List.set_cons_succ]
              refine wpAnyH_take (i := 9) (oi := { dst := some 33, op := Op.binOp BinOp.or 78 (Operand.tmp 29) (Operand.tmp 32) 78, type := 78, pos := "rcdec.go:102", after := #[{ on := 5, ground := Ground.data }, { on := 8, ground := Ground.data }], guard := none }) (v := ?va8) rfl (by kernel_rfl) (by kernel_rfl) (by kernel_rfl) (fun _ _ _ h => h) (Or.inl ⟨by rfl, ?ya8⟩) trivial ?_
              case ya8 =>
                intro w hSw
                go_simp; all_goals (with_reducible rfl)
              simp only [Act.put, List.setIfInBounds_toArray, List.set_cons_zero, List.set_cons_succ]
              refine wpAnyH_take (i := 10) (oi := { dst := some 34, op := Op.nilCheck (Operand.tmp 24), type := 0, pos := "rcdec.go:102", after := #[{ on := 0, ground := Ground.data }, { on := 0, ground := Ground.phase }, { on := 1, ground := Ground.phase }, { on := 2, ground := Ground.phase }, { on := 3, ground := Ground.phase }, { on := 4, ground := Ground.phase }, { on := 5, ground := Ground.phase }, { on := 6, ground := Ground.phase }, { on := 7, ground := Ground.phase }, { on := 8, ground := Ground.phase }, { on := 9, ground := Ground.phase }], guard := none }) (v := ?va9) rfl (by kernel_rfl) (by kernel_rfl) (by kernel_rfl) (fun _ _ _ h => h) (Or.inl ⟨by rfl, ?ya9⟩) trivial ?_
              case ya9 =>
                intro w hSw
                go_simp; all_goals (with_reducible rfl)
              simp only [Act.put, List.setIfInBounds_toArray, List.set_cons_zero, List.set_cons_succ]
              refine wpAnyH_take (i := 11) (oi := { dst := some 35, op := Op.fieldAddr 91 (Operand.tmp 34) 0, type := 0, pos := "rcdec.go:102", after := #[{ on := 10, ground := Ground.data }, { on := 0, ground := Ground.phase }, { on := 1, ground := Ground.phase }, { on := 2, ground := Ground.phase }, { on := 3, ground := Ground.phase }, { on := 4, ground := Ground.phase }, { on := 5, ground := Ground.phase }, { on := 6, ground := Ground.phase }, { on := 7, ground := Ground.phase }, { on := 8, ground := Ground.phase }, { on := 9, ground := Ground.phase }], guard := none }) (v := ?va10) rfl (by kernel_rfl) (by kernel_rfl) (by kernel_rfl) (fun _ _ _ h => h) (Or.inl ⟨by rfl, ?ya10⟩) trivial ?_
              case ya10 =>
                intro w hSw
                go_simp; all_goals (with_reducible rfl)
              simp only [Act.put, List.setIfInBounds_toArray, List.set_cons_zero, List.set_cons_succ]
              refine wpAnyH_ready (rs := [12]) (by kernel_rfl) (by simp) ?_
              refine (AllReadyH.cons (o := { dst := none, op := Op.store 78 (Operand.tmp 35) (Operand.tmp 33), type := 0, pos := "rcdec.go:102", after := #[{ on := 11, ground := Ground.data }, { on := 9, ground := Ground.data }, { on := 7, ground := Ground.chain }, { on := 0, ground := Ground.phase }, { on := 1, ground := Ground.phase }, { on := 2, ground := Ground.phase }, { on := 3, ground := Ground.phase }, { on := 4, ground := Ground.phase }, { on := 5, ground := Ground.phase }, { on := 6, ground := Ground.phase }, { on := 7, ground := Ground.phase }, { on := 8, ground := Ground.phase }, { on := 9, ground := Ground.phase }], guard := none }) rfl (fun K hK => ?_) AllReadyH.nil)
              go_simp
              refine hK.out _ _ trivial (fun _ => ?_)
              clear hK K
              refine wpAnyH_done (by kernel_rfl) ?_ _
              have hbl : (l[pos]).toNat < 256 := (l[pos]).toNat_lt
              rw [code_step c (l[pos]).toNat hbl]
              have hfn := Rd.next_fits hft hy
              have hnx := Rd.next_in (l := l) (s := ⟨pos, c, r, false⟩) hp
              rw [hnx] at hfn HST
              simp only at hfn HST
              generalize (256 * c + (l[pos]).toNat) % 4294967296 = C at *
              have hT4 : DecAt (w3.setCell ⟨g, 0, none⟩ (.int .u32 (C : Nat))) g o cap l C (r * 256) (pos + 1) false := ⟨s50 hT3.blk _, bytes_set hT3.own hT3.ne _, hT3.ne, by simpa using hT3.lt⟩
              have hon4 : Only [g] w (w3.setCell ⟨g, 0, none⟩ (.int .u32 (C : Nat))) := (hon1.trans (hon3.undrew) (by simp)).setCell (.inl (by simp)) _
              clear hnx hcall hT3 hon3 hj fj k0d hT2 hon1
              go_wp2_with fail
              go_roundg gk
              case measure => omega
              case rel => exact ⟨⟨pos + 1, C, r * 256, false⟩, ⟨C, r * 256, fun _ => ⟨rfl, rfl⟩, hT4⟩, hfn, fun _ => HNX.out, HST.out, hon4⟩
            · skip
              go_simp
              refine hcall.out.mono ?_
              rintro e w3 ⟨rfl, hT3, hon3⟩
              have hj := c50 hT3.blk
              have fj := frozen_of_row w3 g 0 _ _ hT3.blk
              go_wp2_with fail
              refine hK.out _ _ trivial (fun _ => ?_)
              clear hK K
              refine wpAnyH_take (i := 8) (oi := { dst := some 32, op := Op.convert 5 78 (Operand.tmp 31), type := 78, pos := "rcdec.go:102", after := #[{ on := 7, ground := Ground.data }], guard := none }) (v := ?va11) rfl (by kernel_rfl) (by kernel_rfl) (by kernel_rfl) (fun _ _ _ h => h) (Or.inl ⟨by rfl, ?ya11⟩) trivial ?_
              case ya11 =>
                intro w hSw
                go_simp; all_goals (with_reducible rfl)
              simp only [Act.put, List.setIfInBounds_toArray, List.set_cons_zero, List.set_cons_succ]
              refine wpAnyH_ready (rs := [4]) (by kernel_rfl) (by simp) ?_
              refine (AllReadyH.cons (o := { dst := some 28, op := Op.load 78 (Operand.tmp 27), type := 78, pos := "rcdec.go:102", after := #[{ on := 3, ground := Ground.data }], guard := none }) rfl (fun K hK => ?_) AllReadyH.nil)
              go_simp
              refine hK.out _ _ trivial (fun _ => ?_)
              clear hK K
              refine wpAnyH_take (i := 5) (oi := { dst := some 29, op := Op.binOp BinOp.shl 78 (Operand.tmp 28) (Operand.const (Value.int IntKind.u64 8)) 89, type := 78, pos := "rcdec.go:102", after := #[{ on := 4, ground := Ground.data }], guard := none }) (v := ?va12) rfl (by kernel_rfl) (by kernel_rfl) (by kernel_rfl) (fun _ _ _ h => h) (Or.inl ⟨by rfl, ?ya12⟩) trivial ?_
              case ya12 =>
                intro w hSw
                go_simp; all_goals (with_reducible rfl)
              simp only [Act.put, List.setIfInBounds_toArray, List.set_cons_zero, List.set_cons_succ]
              refine wpAnyH_take (i := 9) (oi := { dst := some 33, op := Op.binOp BinOp.or 78 (Operand.tmp 29) (Operand.tmp 32) 78, type := 78, pos := "rcdec.go:102", after := #[{ on := 5, ground := Ground.data }, { on := 8, ground := Ground.data }], guard := none }) (v := ?va13) rfl (by kernel_rfl) (by kernel_rfl) (by kernel_rfl) (fun _ _ _ h => h) (Or.inl ⟨by rfl, ?ya13⟩) trivial ?_
              case ya13 =>
                intro w hSw
                go_simp; all_goals (with_reducible rfl)
              simp only [Act.put, List.setIfInBounds_toArray, List.set_cons_zero, List.set_cons_succ]
              refine wpAnyH_take (i := 10) (oi := { dst := some 34, op := Op.nilCheck (Operand.tmp 24), type := 0, pos := "rcdec.go:102", after := #[{ on := 0, ground := Ground.data }, { on := 0, ground := Ground.phase }, { on := 1, ground := Ground.phase }, { on := 2, ground := Ground.phase }, { on := 3, ground := Ground.phase }, { on := 4, ground := Ground.phase }, { on := 5, ground := Ground.phase }, { on := 6, ground := Ground.phase }, { on := 7, ground := Ground.phase }, { on := 8, ground := Ground.phase }, { on := 9, ground := Ground.phase }], guard := none }) (v := ?va14) rfl (by kernel_rfl) (by kernel_rfl) (by kernel_rfl) (fun _ _ _ h => h) (Or.inl ⟨by rfl, ?ya14⟩) trivial ?_
              case ya14 =>
                intro w hSw
                go_simp; all_goals (with_reducible rfl)
              simp only [Act.put, List.setIfInBounds_toArray, List.set_cons_zero, List.set_cons_succ]
              refine wpAnyH_take (i := 11) (oi := { dst := some 35, op := Op.fieldAddr 91 (Operand.tmp 34) 0, type := 0, pos := "rcdec.go:102", after := #[{ on := 10, ground := Ground.data }, { on := 0, ground := Ground.phase }, { on := 1, ground := Ground.phase }, { on := 2, ground := Ground.phase }, { on := 3, ground := Ground.phase }, { on := 4, ground := Ground.phase }, { on := 5, ground := Ground.phase }, { on := 6, ground := Ground.phase }, { on := 7, ground := Ground.phase }, { on := 8, ground := Ground.phase }, { on := 9, ground := Ground.phase }], guard := none }) (v := ?va15) rfl (by kernel_rfl) (by kernel_rfl) (by kernel_rfl) (fun _ _ _ h => h) (Or.inl ⟨by rfl, ?ya15⟩) trivial ?_
              case ya15 =>
                intro w hSw
                go_simp; all_goals (with_reducible rfl)
              simp only [Act.put, List.setIfInBounds_toArray, List.set_cons_zero, List.set_cons_succ]
              refine wpAnyH_ready (rs := [12]) (by kernel_rfl) (by simp) ?_
              refine (AllReadyH.cons (o := { dst := none, op := Op.store 78 (Operand.tmp 35) (Operand.tmp 33), type := 0, pos := "rcdec.go:102", after := #[{ on := 11, ground := Ground.data }, { on := 9, ground := Ground.data }, { on := 7, ground := Ground.chain }, { on := 0, ground := Ground.phase }, { on := 1, ground := Ground.phase }, { on := 2, ground := Ground.phase }, { on := 3, ground := Ground.phase }, { on := 4, ground := Ground.phase }, { on := 5, ground := Ground.phase }, { on := 6, ground := Ground.phase }, { on := 7, ground := Ground.phase }, { on := 8, ground := Ground.phase }, { on := 9, ground := Ground.phase }], guard := none }) rfl (fun K hK => ?_) AllReadyH.nil)
              go_simp
              refine hK.out _ _ trivial (fun _ => ?_)
              clear hK K
              refine wpAnyH_done (by kernel_rfl) ?_ _
              have hbl : (l[pos]).toNat < 256 := (l[pos]).toNat_lt
              rw [code_step c (l[pos]).toNat hbl]
              have hfn := Rd.next_fits hft hy
              have hnx := Rd.next_in (l := l) (s := ⟨pos, c, r, false⟩) hp
              rw [hnx] at hfn HST
              simp only at hfn HST
              generalize (256 * c + (l[pos]).toNat) % 4294967296 = C at *
              have hT4 : DecAt (w3.setCell ⟨g, 0, none⟩ (.int .u32 (C : Nat))) g o cap l C (r * 256) (pos + 1) false := ⟨s50 hT3.blk _, bytes_set hT3.own hT3.ne _, hT3.ne, by simpa using hT3.lt⟩
              have hon4 : Only [g] w (w3.setCell ⟨g, 0, none⟩ (.int .u32 (C : Nat))) := (hon1.trans (hon3.undrew) (by simp)).setCell (.inl (by simp)) _
              clear hnx hcall hT3 hon3 hj fj k0d hT2 hon1
              go_wp2_with fail
              go_roundg gk
              case measure => omega
              case rel => exact ⟨⟨pos + 1, C, r * 256, false⟩, ⟨C, r * 256, fun _ => ⟨rfl, rfl⟩, hT4⟩, hfn, fun _ => HNX.out, HST.out, hon4⟩

          · obtain rfl : l.length = pos := by have : pos ≤ l.length := hft.1; omega
            have hcall := Lib.hid (next_out g o cap l c (r * 256) w1.drew (hT2.below (drew_below _)))
            refine wp_region_held_drew (S := fun _ => True) (by kernel_rfl) trivial (fun hS => ?_)
            refine wpAnyH_take (i := 0) (oi := { dst := some 24, op := Op.move (Operand.tmp 0), type := 55, pos := "rcdec.go:102", after := #[], guard := none }) (v := ?vb16) rfl (by kernel_rfl) (by kernel_rfl) (by kernel_rfl) (fun _ _ _ h => h) (Or.inl ⟨by rfl, ?yb16⟩) hS ?_
            case yb16 =>
              intro w hSw
              go_simp; all_goals (with_reducible rfl)
            simp only [Act.put, List.setIfInBounds_toArray, List.set_cons_zero, List.set_cons_succ]
            refine wpAnyH_take (i := 1) (oi := { dst := some 25, op := Op.move (Operand.tmp 0), type := 55, pos := "rcdec.go:102", after := #[], guard := none }) (v := ?vb17) rfl (by kernel_rfl) (by kernel_rfl) (by kernel_rfl) (fun _ _ _ h => h) (Or.inl ⟨by rfl, ?yb17⟩) hS ?_
            case yb17 =>
              intro w hSw
              go_simp; all_goals (with_reducible rfl)
            simp only [Act.put, List.setIfInBounds_toArray, List.set_cons_zero, List.set_cons_succ]
            refine wpAnyH_take (i := 2) (oi := { dst := some 26, op := Op.nilCheck (Operand.tmp 25), type := 0, pos := "rcdec.go:102", after := #[{ on := 1, ground := Ground.data }], guard := none }) (v := ?vb18) rfl (by kernel_rfl) (by kernel_rfl) (by kernel_rfl) (fun _ _ _ h => h) (Or.inl ⟨by rfl, ?yb18⟩) hS ?_
            case yb18 =>
              intro w hSw
              go_simp; all_goals (with_reducible rfl)
            simp only [Act.put, List.setIfInBounds_toArray, List.set_cons_zero, List.set_cons_succ]
            refine wpAnyH_take (i := 3) (oi := { dst := some 27, op := Op.fieldAddr 91 (Operand.tmp 26) 0, type := 0, pos := "rcdec.go:102", after := #[{ on := 2, ground := Ground.data }], guard := none }) (v := ?vb19) rfl (by kernel_rfl) (by kernel_rfl) (by kernel_rfl) (fun _ _ _ h => h) (Or.inl ⟨by rfl, ?yb19⟩) hS ?_
            case yb19 =>
              intro w hSw
              go_simp; all_goals (with_reducible rfl)
            simp only [Act.put, List.setIfInBounds_toArray, List.set_cons_zero, List.set_cons_succ]
            refine wpAnyH_take (i := 6) (oi := { dst := some 30, op := Op.move (Operand.tmp 2), type := 135, pos := "rcdec.go:102", after := #[], guard := none }) (v := ?vb20) rfl (by kernel_rfl) (by kernel_rfl) (by kernel_rfl) (fun _ _ _ h => h) (Or.inl ⟨by rfl, ?yb20⟩) hS ?_
            case yb20 =>
              intro w hSw
              go_simp; all_goals (with_reducible rfl)
            simp only [Act.put, List.setIfInBounds_toArray, List.set_cons_zero, List.set_cons_succ]
            refine wpAnyH_ready (rs := [4, 7]) (by kernel_rfl) (by simp) ?_
            refine (AllReadyH.cons (o := { dst := some 28, op := Op.load 78 (Operand.tmp 27), type := 78, pos := "rcdec.go:102", after := #[{ on := 3, ground := Ground.data }], guard := none }) rfl (fun K hK => ?_) (AllReadyH.cons (o := { dst := some 31, op := Op.call { callee := Callee.value (Operand.tmp 30), args := #[], argTypes := #[] }, type := 5, pos := "rcdec.go:102", after := #[{ on := 6, ground := Ground.data }], guard := none }) rfl (fun K hK => ?_) AllReadyH.nil))
            · skip
              go_simp
              refine hK.out _ _ trivial (fun _ => ?_)
              clear hK K
              refine wpAnyH_take (i := 5) (oi := { dst := some 29, op := Op.binOp BinOp.shl 78 (Operand.tmp 28) (Operand.const (Value.int IntKind.u64 8)) 89, type := 78, pos := "rcdec.go:102", after := #[{ on := 4, ground := Ground.data }], guard := none }) (v := ?vb21) rfl (by kernel_rfl) (by kernel_rfl) (by kernel_rfl) (fun _ _ _ h => h) (Or.inl ⟨by rfl, ?yb21⟩) trivial ?_
              case yb21 =>
                intro w hSw
                go_simp; all_goals (with_reducible rfl)
              simp only [Act.put, List.setIfInBounds_toArray, List.set_cons_zero, List.set_cons_succ]
              refine wpAnyH_ready (rs := [7]) (by kernel_rfl) (by simp) ?_
              refine (AllReadyH.cons (o := { dst := some 31, op := Op.call { callee := Callee.value (Operand.tmp 30), args := #[], argTypes := #[] }, type := 5, pos := "rcdec.go:102", after := #[{ on := 6, ground := Ground.data }], guard := none }) rfl (fun K hK => ?_) AllReadyH.nil)
              go_simp
              refine hcall.out.mono ?_
              rintro e w3 ⟨rfl, hT3, hon3⟩
              have hj := c50 hT3.blk
              have fj := frozen_of_row w3 g 0 _ _ hT3.blk
              go_wp2_with fail
              refine hK.out _ _ trivial (fun _ => ?_)
              clear hK K
              refine wpAnyH_take (i := 8) (oi := { dst := some 32, op := Op.convert 5 78 (Operand.tmp 31), type := 78, pos := "rcdec.go:102", after := #[{ on := 7, ground := Ground.data }], guard := none }) (v := ?vb22) rfl (by kernel_rfl) (by kernel_rfl) (by kernel_rfl) (fun _ _ _ h => h) (Or.inl ⟨by rfl, ?yb22⟩) trivial ?_
              case yb22 =>
                intro w hSw
                go_simp; all_goals (with_reducible rfl)
              simp only [Act.put, List.setIfInBounds_toArray, List.set_cons_zero, List.set_cons_succ]
              refine wpAnyH_take (i := 9) (oi := { dst := some 33, op := Op.binOp BinOp.or 78 (Operand.tmp 29) (Operand.tmp 32) 78, type := 78, pos := "rcdec.go:102", after := #[{ on := 5, ground := Ground.data }, { on := 8, ground := Ground.data }], guard := none }) (v := ?vb23) rfl (by kernel_rfl) (by kernel_rfl) (by kernel_rfl) (fun _ _ _ h => h) (Or.inl ⟨by rfl, ?yb23⟩) trivial ?_
              case yb23 =>
                intro w hSw
                go_simp; all_goals (with_reducible rfl)
              simp only [Act.put, List.setIfInBounds_toArray, List.set_cons_zero, List.set_cons_succ]
              refine wpAnyH_take (i := 10) (oi := { dst := some 34, op := Op.nilCheck (Operand.tmp 24), type := 0, pos := "rcdec.go:102", after := #[{ on := 0, ground := Ground.data }, { on := 0, ground := Ground.phase }, { on := 1, ground := Ground.phase }, { on := 2, ground := Ground.phase }, { on := 3, ground := Ground.phase }, { on := 4, ground := Ground.phase }, { on := 5, ground := Ground.phase }, { on := 6, ground := Ground.phase }, { on := 7, ground := Ground.phase }, { on := 8, ground := Ground.phase }, { on := 9, ground := Ground.phase }], guard := none }) (v := ?vb24) rfl (by kernel_rfl) (by kernel_rfl) (by kernel_rfl) (fun _ _ _ h => h) (Or.inl ⟨by rfl, ?yb24⟩) trivial ?_
              case yb24 =>
                intro w hSw
                go_simp; all_goals (with_reducible rfl)
              simp only [Act.put, List.setIfInBounds_toArray, List.set_cons_zero, List.set_cons_succ]
              refine wpAnyH_take (i := 11) (oi := { dst := some 35, op := Op.fieldAddr 91 (Operand.tmp 34) 0, type := 0, pos := "rcdec.go:102", after := #[{ on := 10, ground := Ground.data }, { on := 0, ground := Ground.phase }, { on := 1, ground := Ground.phase }, { on := 2, ground := Ground.phase }, { on := 3, ground := Ground.phase }, { on := 4, ground := Ground.phase }, { on := 5, ground := Ground.phase }, { on := 6, ground := Ground.phase }, { on := 7, ground := Ground.phase }, { on := 8, ground := Ground.phase }, { on := 9, ground := Ground.phase }], guard := none }) (v := ?vb25) rfl (by kernel_rfl) (by kernel_rfl) (by kernel_rfl) (fun _ _ _ h => h) (Or.inl ⟨by rfl, ?yb25⟩) trivial ?_
              case yb25 =>
                intro w hSw
                go_simp; all_goals (with_reducible rfl)
              simp only [Act.put, List.setIfInBounds_toArray, List.set_cons_zero, List.set_cons_succ]
              refine wpAnyH_ready (rs := [12]) (by kernel_rfl) (by simp) ?_
              refine (AllReadyH.cons (o := { dst := none, op := Op.store 78 (Operand.tmp 35) (Operand.tmp 33), type := 0, pos := "rcdec.go:102", after := #[{ on := 11, ground := Ground.data }, { on := 9, ground := Ground.data }, { on := 7, ground := Ground.chain }, { on := 0, ground := Ground.phase }, { on := 1, ground := Ground.phase }, { on := 2, ground := Ground.phase }, { on := 3, ground := Ground.phase }, { on := 4, ground := Ground.phase }, { on := 5, ground := Ground.phase }, { on := 6, ground := Ground.phase }, { on := 7, ground := Ground.phase }, { on := 8, ground := Ground.phase }, { on := 9, ground := Ground.phase }], guard := none }) rfl (fun K hK => ?_) AllReadyH.nil)
              go_simp
              refine hK.out _ _ trivial (fun _ => ?_)
              clear hK K
              refine wpAnyH_done (by kernel_rfl) ?_ _
              have h0 : bits .or .u32 (IntKind.u32.wrap ((c : Int) * 256)) (IntKind.u32.wrap 0) = (((256 * c + 0) % 4294967296 : Nat) : Int) := code_step c 0 (by omega)
              rw [h0]
              have hfn := Rd.next_fits hft hy
              have hnx := Rd.next_end (l := l) (s := ⟨l.length, c, r, false⟩) hp
              rw [hnx] at hfn HST
              simp only at hfn HST
              generalize (256 * c + 0) % 4294967296 = C at *
              have hT4 : DecAt (w3.setCell ⟨g, 0, none⟩ (.int .u32 (C : Nat))) g o cap l C (r * 256) l.length true := ⟨s50 hT3.blk _, bytes_set hT3.own hT3.ne _, hT3.ne, by simpa using hT3.lt⟩
              have hon4 : Only [g] w (w3.setCell ⟨g, 0, none⟩ (.int .u32 (C : Nat))) := (hon1.trans (hon3.undrew) (by simp)).setCell (.inl (by simp)) _
              clear hnx hcall hT3 hon3 hj fj k0d hT2 hon1 h0
              go_wp2_with fail
              go_roundg gk
              case measure => omega
              case rel => exact ⟨⟨l.length, 0, 0, true⟩, ⟨C, r * 256, (fun h => by cases h), hT4⟩, hfn, (fun h => by cases h), HST.out, hon4⟩
            · skip
              go_simp
              refine hcall.out.mono ?_
              rintro e w3 ⟨rfl, hT3, hon3⟩
              have hj := c50 hT3.blk
              have fj := frozen_of_row w3 g 0 _ _ hT3.blk
              go_wp2_with fail
              refine hK.out _ _ trivial (fun _ => ?_)
              clear hK K
              refine wpAnyH_take (i := 8) (oi := { dst := some 32, op := Op.convert 5 78 (Operand.tmp 31), type := 78, pos := "rcdec.go:102", after := #[{ on := 7, ground := Ground.data }], guard := none }) (v := ?vb26) rfl (by kernel_rfl) (by kernel_rfl) (by kernel_rfl) (fun _ _ _ h => h) (Or.inl ⟨by rfl, ?yb26⟩) trivial ?_
              case yb26 =>
                intro w hSw
                go_simp; all_goals (with_reducible rfl)
              simp only [Act.put, List.setIfInBounds_toArray, List.set_cons_zero, List.set_cons_succ]
              refine wpAnyH_ready (rs := [4]) (by kernel_rfl) (by simp) ?_
              refine (AllReadyH.cons (o := { dst := some 28, op := Op.load 78 (Operand.tmp 27), type := 78, pos := "rcdec.go:102", after := #[{ on := 3, ground := Ground.data }], guard := none }) rfl (fun K hK => ?_) AllReadyH.nil)
              go_simp
              refine hK.out _ _ trivial (fun _ => ?_)
              clear hK K
              refine wpAnyH_take (i := 5) (oi := { dst := some 29, op := Op.binOp BinOp.shl 78 (Operand.tmp 28) (Operand.const (Value.int IntKind.u64 8)) 89, type := 78, pos := "rcdec.go:102", after := #[{ on := 4, ground := Ground.data }], guard := none }) (v := ?vb27) rfl (by kernel_rfl) (by kernel_rfl) (by kernel_rfl) (fun _ _ _ h => h) (Or.inl ⟨by rfl, ?yb27⟩) trivial ?_
              case yb27 =>
                intro w hSw
                go_simp; all_goals (with_reducible rfl)
              simp only [Act.put, List.setIfInBounds_toArray, List.set_cons_zero, List.set_cons_succ]
              refine wpAnyH_take (i := 9) (oi := { dst := some 33, op := Op.binOp BinOp.or 78 (Operand.tmp 29) (Operand.tmp 32) 78, type := 78, pos := "rcdec.go:102", after := #[{ on := 5, ground := Ground.data }, { on := 8, ground := Ground.data }], guard := none }) (v := ?vb28) rfl (by kernel_rfl) (by kernel_rfl) (by kernel_rfl) (fun _ _ _ h => h) (Or.inl ⟨by rfl, ?yb28⟩) trivial ?_
              case yb28 =>
                intro w hSw
                go_simp; all_goals (with_reducible rfl)
              simp only [Act.put, List.setIfInBounds_toArray, List.set_cons_zero, List.set_cons_succ]
              refine wpAnyH_take (i := 10) (oi := { dst := some 34, op := Op.nilCheck (Operand.tmp 24), type := 0, pos := "rcdec.go:102", after := #[{ on := 0, ground := Ground.data }, { on := 0, ground := Ground.phase }, { on := 1, ground := Ground.phase }, { on := 2, ground := Ground.phase }, { on := 3, ground := Ground.phase }, { on := 4, ground := Ground.phase }, { on := 5, ground := Ground.phase }, { on := 6, ground := Ground.phase }, { on := 7, ground := Ground.phase }, { on := 8, ground := Ground.phase }, { on := 9, ground := Ground.phase }], guard := none }) (v := ?vb29) rfl (by kernel_rfl) (by kernel_rfl) (by kernel_rfl) (fun _ _ _ h => h) (Or.inl ⟨by rfl, ?yb29⟩) trivial ?_
              case yb29 =>
                intro w hSw
                go_simp; all_goals (with_reducible rfl)
              simp only [Act.put, List.setIfInBounds_toArray, List.set_cons_zero, List.set_cons_succ]
              refine wpAnyH_take (i := 11) (oi := { dst := some 35, op := Op.fieldAddr 91 (Operand.tmp 34) 0, type := 0, pos := "rcdec.go:102", after := #[{ on := 10, ground := Ground.data }, { on := 0, ground := Ground.phase }, { on := 1, ground := Ground.phase }, { on := 2, ground := Ground.phase }, { on := 3, ground := Ground.phase }, { on := 4, ground := Ground.phase }, { on := 5, ground := Ground.phase }, { on := 6, ground := Ground.phase }, { on := 7, ground := Ground.phase }, { on := 8, ground := Ground.phase }, { on := 9, ground := Ground.phase }], guard := none }) (v := ?vb30) rfl (by kernel_rfl) (by kernel_rfl) (by kernel_rfl) (fun _ _ _ h => h) (Or.inl ⟨by rfl, ?yb30⟩) trivial ?_
              case yb30 =>
                intro w hSw
                go_simp; all_goals (with_reducible rfl)
              simp only [Act.put, List.setIfInBounds_toArray, List.set_cons_zero, List.set_cons_succ]
              refine wpAnyH_ready (rs := [12]) (by kernel_rfl) (by simp) ?_
              refine (AllReadyH.cons (o := { dst := none, op := Op.store 78 (Operand.tmp 35) (Operand.tmp 33), type := 0, pos := "rcdec.go:102", after := #[{ on := 11, ground := Ground.data }, { on := 9, ground := Ground.data }, { on := 7, ground := Ground.chain }, { on := 0, ground := Ground.phase }, { on := 1, ground := Ground.phase }, { on := 2, ground := Ground.phase }, { on := 3, ground := Ground.phase }, { on := 4, ground := Ground.phase }, { on := 5, ground := Ground.phase }, { on := 6, ground := Ground.phase }, { on := 7, ground := Ground.phase }, { on := 8, ground := Ground.phase }, { on := 9, ground := Ground.phase }], guard := none }) rfl (fun K hK => ?_) AllReadyH.nil)
              go_simp
              refine hK.out _ _ trivial (fun _ => ?_)
              clear hK K
              refine wpAnyH_done (by kernel_rfl) ?_ _
              have h0 : bits .or .u32 (IntKind.u32.wrap ((c : Int) * 256)) (IntKind.u32.wrap 0) = (((256 * c + 0) % 4294967296 : Nat) : Int) := code_step c 0 (by omega)
              rw [h0]
              have hfn := Rd.next_fits hft hy
              have hnx := Rd.next_end (l := l) (s := ⟨l.length, c, r, false⟩) hp
              rw [hnx] at hfn HST
              simp only at hfn HST
              generalize (256 * c + 0) % 4294967296 = C at *
              have hT4 : DecAt (w3.setCell ⟨g, 0, none⟩ (.int .u32 (C : Nat))) g o cap l C (r * 256) l.length true := ⟨s50 hT3.blk _, bytes_set hT3.own hT3.ne _, hT3.ne, by simpa using hT3.lt⟩
              have hon4 : Only [g] w (w3.setCell ⟨g, 0, none⟩ (.int .u32 (C : Nat))) := (hon1.trans (hon3.undrew) (by simp)).setCell (.inl (by simp)) _
              clear hnx hcall hT3 hon3 hj fj k0d hT2 hon1 h0
              go_wp2_with fail
              go_roundg gk
              case measure => omega
              case rel => exact ⟨⟨l.length, 0, 0, true⟩, ⟨C, r * 256, (fun h => by cases h), hT4⟩, hfn, (fun h => by cases h), HST.out, hon4⟩

      · have hy' : ¬ (r : Int) < 16777216 := by omega
        have hst : Rd.scale l gk ⟨pos, c, r, false⟩ = ⟨pos, c, r, false⟩ := Rd.scale_big hy
        have HST := Lib.hid (hsc.out.trans hst)
        clear hst hxy hrt hsc hy hft
        go_wp2_with fail
        go_end0
        exact ⟨rfl, by rw [HST.out]; exact ⟨c, r, fun _ => ⟨rfl, rfl⟩, hT⟩, hon⟩
end Go.Proofs.Ytiodlhieaajcgaa

/- The walks over the decoder's Out, choose, Bit and Done. -/
namespace Go.Proofs.Ytiodlhieaajcgaa
open Go.RowKit

theorem DecIs.below {w w' : World} {g o cap : Nat} {l : List UInt8} {s : Rd.St} (h : DecIs w g o cap l s) (hb : Below w.heap.size w w') : DecIs w' g o cap l s := by
  obtain ⟨x, y, h1, h2⟩ := h; exact ⟨x, y, h1, h2.below hb⟩

set_option maxHeartbeats 400000 in
theorem out_at (g o cap : Nat) (l : List UInt8) (x y pos : Nat) (out : Bool) (w : World) (hE : DecAt w g o cap l x y pos out) :
    Calls Try.prog 42 #[.pointer (some ⟨g, 0, none⟩)] w fun e w' => e = .returned (.bool out) ∧ w = w' := by
  have k4 := c54 hE.blk
  go_enter Try.func42, Try.ntmps42
  go_wp2_with fail
  go_ret
  exact ⟨rfl, rfl⟩
theorem out_any (g o cap : Nat) (l : List UInt8) (s : Rd.St) (w : World) (hE : DecIs w g o cap l s) :
    Calls Try.prog 42 #[.pointer (some ⟨g, 0, none⟩)] w fun e w' => e = .returned (.bool s.out) ∧ w = w' := by
  obtain ⟨x, y, _, hT⟩ := hE
  exact out_at g o cap l x y _ _ w hT
set_option maxHeartbeats 400000 in
theorem out_nil (w : World) : Calls Try.prog 42 #[.pointer none] w fun e w' => e = .returned (.bool true) ∧ w = w' := by
  go_enter Try.func42, Try.ntmps42
  go_wp2_with fail
  go_ret
  exact ⟨rfl, rfl⟩

/-- What choose comes to. -/
def Chose (w : World) (g o cap : Nat) (l : List UInt8) (b : Bool) (s : Rd.St) (e : Ending) (w' : World) : Prop := e = .returned (.int .i64 (bitI b)) ∧ Moved w g o cap l s w'

set_option maxRecDepth 100000 in
set_option maxHeartbeats 1000000 in
theorem choose_any (g o cap : Nat) (l : List UInt8) (s : Rd.St) (p : Nat) (w : World) (hE : DecIs w g o cap l s) (hs : s.ok l) (hl : l.length ≤ 140737488355328) (h1 : 1 ≤ p) (h2 : p ≤ 2047) :
    Calls Try.prog 94 #[.pointer (some ⟨g, 0, none⟩), .int .u16 (p : Nat)] w (Chose w g o cap l (s.bit l p).1 (s.bit l p).2) := by
  obtain ⟨x, y, hxy, hT⟩ := hE
  obtain ⟨pos, c, r, out⟩ := s
  have hO := Lib.hid (out_at g o cap l x y pos out w hT)
  cases out with
  | true =>
    have hb : (Rd.St.bit l ⟨pos, c, r, true⟩ p) = (false, ⟨pos, c, r, true⟩) := rfl
    rw [hb]
    have hT0 : DecAt w g o cap l x y pos true := hT
    clear hT hxy hb hs
    go_enter Try.func94, Try.ntmps94
    go_wp2_with fail
    refine hO.out.mono ?_
    rintro e w' ⟨rfl, rfl⟩
    go_wp2_with fail
    go_ret
    exact ⟨rfl, ⟨x, y, (fun h => by cases h), hT0⟩, Only.refl _ _⟩
  | false =>
    obtain rfl : c = x := (hxy rfl).1.symm
    obtain rfl : r = y := (hxy rfl).2.symm
    have hT0 : DecAt w g o cap l c r pos false := hT
    have hb : (Rd.St.bit l ⟨pos, c, r, false⟩ p) = (Rd.St.one ⟨pos, c, r, false⟩ p, Rd.scale l 2 (Rd.St.pick ⟨pos, c, r, false⟩ p)) := rfl
    obtain ⟨hpf, hpr⟩ := Rd.St.pick_fits hs rfl h1 h2
    have hr32 : r < 4294967296 := hs.1.2.2
    have hc32 : c < 4294967296 := hs.1.2.1
    have hbd := bound_u32 r p hr32 h2
    have hble : r / 2048 * p ≤ r / 2048 * 2047 := Nat.mul_le_mul_left _ h2
    have k0 := c50 hT0.blk
    have k1 := c51 hT0.blk
    have f0 := frozen_of_row w g 0 _ _ hT0.blk
    have f1 := frozen_of_row w g 1 _ _ hT0.blk
    rw [hb]
    clear hb hT hxy hs
    by_cases hlt : r / 2048 * p ≤ c
    · have hone : Rd.St.one ⟨pos, c, r, false⟩ p = true := decide_eq_true hlt
      have hpk : Rd.St.pick ⟨pos, c, r, false⟩ p = ⟨pos, c - r / 2048 * p, r - r / 2048 * p, false⟩ := if_pos hlt
      rw [hone]
      rw [hpk] at hpf hpr ⊢
      have hbr : r / 2048 * p ≤ r := by omega
      clear hone hpk
      generalize r / 2048 * p = bnd at *
      have hn : ¬ (c : Int) < (bnd : Int) := by omega
      have e1 : (c : Int) - (bnd : Int) = ((c - bnd : Nat) : Int) := by omega
      have e2 : (r : Int) - (bnd : Int) = ((r - bnd : Nat) : Int) := by omega
      have hT1 : DecAt ((w.setCell ⟨g, 0, none⟩ (.int .u32 ((c - bnd : Nat) : Int))).setCell ⟨g, 1, none⟩ (.int .u32 ((r - bnd : Nat) : Int))) g o cap l (c - bnd) (r - bnd) pos false :=
        ⟨s51 (s50 hT0.blk _) _, bytes_set (bytes_set hT0.own hT0.ne _) hT0.ne _, hT0.ne, by simpa using hT0.lt⟩
      have hsh := Lib.hid (dshift_any 2 g o cap l ⟨pos, c - bnd, r - bnd, false⟩ _ ⟨_, _, (fun _ => ⟨rfl, rfl⟩), hT1⟩ hpf hl (fun _ => by show 16777216 ≤ (r - bnd) * 256 ^ 2; have : 8192 ≤ r - bnd := hpr; omega))
      have k1' := c51 (s50 hT0.blk (.int .u32 ((c - bnd : Nat) : Int)))
      have f1' := frozen_of_row (w.setCell ⟨g, 0, none⟩ (.int .u32 ((c - bnd : Nat) : Int))) g 1 _ _ (s50 hT0.blk (.int .u32 ((c - bnd : Nat) : Int)))
      have hcb : c - bnd < 4294967296 := by omega
      have hrb : r - bnd < 4294967296 := by omega
      generalize c - bnd = cb at *
      generalize r - bnd = rb at *
      go_enter Try.func94, Try.ntmps94
      go_wp2_with fail
      refine hO.out.mono ?_
      rintro e w' ⟨rfl, rfl⟩
      go_wp2_with fail
      refine hsh.out.mono ?_
      rintro e w1 ⟨rfl, hE2, hon⟩
      go_wp2_with fail
      go_ret
      exact ⟨rfl, hE2, ((((Only.refl _ _).setCell (p := ⟨g, 0, none⟩) (.inl (by simp)) _).setCell (p := ⟨g, 1, none⟩) (.inl (by simp)) _).trans hon (by simp))⟩
    · have hone : Rd.St.one ⟨pos, c, r, false⟩ p = false := decide_eq_false hlt
      have hpk : Rd.St.pick ⟨pos, c, r, false⟩ p = ⟨pos, c, r / 2048 * p, false⟩ := if_neg hlt
      rw [hone]
      rw [hpk] at hpf hpr ⊢
      clear hone hpk
      generalize r / 2048 * p = bnd at *
      have hn : (c : Int) < (bnd : Int) := by omega
      have hT1 : DecAt (w.setCell ⟨g, 1, none⟩ (.int .u32 (bnd : Nat))) g o cap l c bnd pos false :=
        ⟨s51 hT0.blk _, bytes_set hT0.own hT0.ne _, hT0.ne, by simpa using hT0.lt⟩
      have hsh := Lib.hid (dshift_any 2 g o cap l ⟨pos, c, bnd, false⟩ _ ⟨_, _, (fun _ => ⟨rfl, rfl⟩), hT1⟩ hpf hl (fun _ => by show 16777216 ≤ bnd * 256 ^ 2; have : 8192 ≤ bnd := hpr; omega))
      go_enter Try.func94, Try.ntmps94
      go_wp2_with fail
      refine hO.out.mono ?_
      rintro e w' ⟨rfl, rfl⟩
      go_wp2_with fail
      refine hsh.out.mono ?_
      rintro e w1 ⟨rfl, hE2, hon⟩
      go_wp2_with fail
      go_ret
      exact ⟨rfl, hE2, ((Only.refl _ _).setCell (p := ⟨g, 1, none⟩) (.inl (by simp)) _).trans hon (by simp)⟩

/-- What Bit comes to. -/
def DBit (w : World) (g o cap : Nat) (l : List UInt8) (b : Bool) (p : Nat) (s : Rd.St) (e : Ending) (w' : World) : Prop :=
  e = .returned (.tuple #[.int .i64 (bitI b), .int .u16 (p : Nat)]) ∧ Moved w g o cap l s w'

theorem dbit_tail {b : Bool} {p : Nat} (h1 : 1 ≤ p) (h2 : p ≤ 2047) : ((Rc.next p b : Nat) : Int) = if b then (p : Int) - (p : Int) / 32 else (p : Int) + (2048 - (p : Int)) / 32 := by
  unfold Rc.next; cases b <;> simp <;> omega

set_option maxRecDepth 100000 in
set_option maxHeartbeats 1000000 in
theorem dbit_any (g o cap : Nat) (l : List UInt8) (s : Rd.St) (c : BitVec 16) (n : Int) (w : World) (hE : DecIs w g o cap l s) (hs : s.ok l) (hl : l.length ≤ 140737488355328) :
    Calls Try.prog 91 #[.pointer (some ⟨g, 0, none⟩), .int .u16 c.toNat, .int .i64 n] w
      (DBit w g o cap l (s.bit l (Rc.fair c.toNat)).1 (Rc.next (Rc.fair c.toNat) (s.bit l (Rc.fair c.toNat)).1) (s.bit l (Rc.fair c.toNat)).2) := by
  obtain ⟨hp1, hp2⟩ := Rc.fair_bounds c.toNat
  have hch := Lib.hid (choose_any g o cap l s (Rc.fair c.toNat) w hE hs hl hp1 hp2)
  have hc := c.isLt
  have hnx := dbit_tail (b := (s.bit l (Rc.fair c.toNat)).1) hp1 hp2
  generalize (s.bit l (Rc.fair c.toNat)).2 = s' at *
  generalize (s.bit l (Rc.fair c.toNat)).1 = b at *
  have hfair : ((Rc.fair c.toNat : Nat) : Int) = if (c.toNat : Int) < 1 ∨ 2048 ≤ (c.toNat : Int) then 1024 else c.toNat := by
    unfold Rc.fair; split <;> split <;> omega
  generalize Rc.fair c.toNat = p at *
  have HF := Lib.hid hfair
  generalize hN : Rc.next p b = nx at *
  have HN := Lib.hid hnx
  clear hE hs hfair hnx hN
  by_cases h1 : (c.toNat : Int) < 1
  · have hp0 : p = 1024 := by have := HF.out; rw [if_pos (.inl h1)] at this; omega
    subst hp0
    clear HF
    cases b with
    | false =>
      have hn : (nx : Int) = 1024 + (2048 - 1024) / 32 := HN.out
      have HN2 := Lib.hid hn
      clear hn HN
      go_enter Try.func91, Try.ntmps91
      go_wp2_with fail
      refine hch.out.mono ?_
      rintro e w' ⟨rfl, hmv⟩
      rw [show bitI false = 0 from rfl]
      go_wp2_with fail
      go_ret2
      exact ⟨congrArg (fun n : Int => Ending.returned (.tuple #[.int .i64 0, .int .u16 n])) HN2.out.symm, hmv⟩
    | true =>
      have hn : (nx : Int) = 1024 - 1024 / 32 := HN.out
      have HN2 := Lib.hid hn
      clear hn HN
      go_enter Try.func91, Try.ntmps91
      go_wp2_with fail
      refine hch.out.mono ?_
      rintro e w' ⟨rfl, hmv⟩
      rw [show bitI true = 1 from rfl]
      go_wp2_with fail
      go_ret2
      exact ⟨congrArg (fun n : Int => Ending.returned (.tuple #[.int .i64 1, .int .u16 n])) HN2.out.symm, hmv⟩
  by_cases h2 : 2048 ≤ (c.toNat : Int)
  · have hp0 : p = 1024 := by have := HF.out; rw [if_pos (.inr h2)] at this; omega
    subst hp0
    clear HF
    cases b with
    | false =>
      have hn : (nx : Int) = 1024 + (2048 - 1024) / 32 := HN.out
      have HN2 := Lib.hid hn
      clear hn HN
      go_enter Try.func91, Try.ntmps91
      go_wp2_with fail
      refine hch.out.mono ?_
      rintro e w' ⟨rfl, hmv⟩
      rw [show bitI false = 0 from rfl]
      go_wp2_with fail
      go_ret2
      exact ⟨congrArg (fun n : Int => Ending.returned (.tuple #[.int .i64 0, .int .u16 n])) HN2.out.symm, hmv⟩
    | true =>
      have hn : (nx : Int) = 1024 - 1024 / 32 := HN.out
      have HN2 := Lib.hid hn
      clear hn HN
      go_enter Try.func91, Try.ntmps91
      go_wp2_with fail
      refine hch.out.mono ?_
      rintro e w' ⟨rfl, hmv⟩
      rw [show bitI true = 1 from rfl]
      go_wp2_with fail
      go_ret2
      exact ⟨congrArg (fun n : Int => Ending.returned (.tuple #[.int .i64 1, .int .u16 n])) HN2.out.symm, hmv⟩
  have hp0 : p = c.toNat := by have := HF.out; rw [if_neg (by omega)] at this; omega
  subst hp0
  clear HF
  cases b with
  | false =>
    have hn : (nx : Int) = (c.toNat : Int) + (2048 - (c.toNat : Int)) / 32 := HN.out
    have HN2 := Lib.hid hn
    clear hn HN
    go_enter Try.func91, Try.ntmps91
    go_wp2_with fail
    refine hch.out.mono ?_
    rintro e w' ⟨rfl, hmv⟩
    rw [show bitI false = 0 from rfl]
    go_wp2_with fail
    go_ret2
    exact ⟨congrArg (fun n : Int => Ending.returned (.tuple #[.int .i64 0, .int .u16 n])) HN2.out.symm, hmv⟩
  | true =>
    have hn : (nx : Int) = (c.toNat : Int) - (c.toNat : Int) / 32 := HN.out
    have HN2 := Lib.hid hn
    clear hn HN
    go_enter Try.func91, Try.ntmps91
    go_wp2_with fail
    refine hch.out.mono ?_
    rintro e w' ⟨rfl, hmv⟩
    rw [show bitI true = 1 from rfl]
    go_wp2_with fail
    go_ret2
    exact ⟨congrArg (fun n : Int => Ending.returned (.tuple #[.int .i64 1, .int .u16 n])) HN2.out.symm, hmv⟩

/-- What a question comes to: memory is as it was. -/
def Says (w : World) (b : Bool) (e : Ending) (w' : World) : Prop := e = .returned (.bool b) ∧ Below w.heap.size w w'

set_option maxRecDepth 100000 in
set_option maxHeartbeats 1000000 in
theorem done_any (g o cap : Nat) (l : List UInt8) (s : Rd.St) (w : World) (hE : DecIs w g o cap l s) :
    Calls Try.prog 25 #[.pointer (some ⟨g, 0, none⟩)] w (Says w (s.done l)) := by
  obtain ⟨x, y, hxy, hT0⟩ := hE
  obtain ⟨pos, c, r, out⟩ := s
  have hT : DecAt w g o cap l x y pos out := hT0
  have hO := Lib.hid (fun w' (h : DecAt w' g o cap l x y pos out) => out_at g o cap l x y pos out w' h)
  have k0 : w.drew.cell? ⟨g, 0, none⟩ = some (.int .u32 (x : Nat)) := c50 hT.blk
  have k2 : w.drew.cell? ⟨g, 2, none⟩ = some (.slice (some ⟨o, 0, none⟩) l.length cap) := c52 hT.blk
  have k3 : w.drew.cell? ⟨g, 3, none⟩ = some (.int .i64 (pos : Nat)) := c53 hT.blk
  clear hT0
  cases out with
  | true =>
    rw [show Rd.St.done l ⟨pos, c, r, true⟩ = false from rfl]
    clear hxy
    generalize l.length = L at k2
    go_enter Try.func25, Try.ntmps25
    go_wp2_with fail
    refine wp_region_held_drew (S := fun w' => w'.cell? ⟨g, 0, none⟩ = some (.int .u32 (x : Nat)) ∧ w'.cell? ⟨g, 2, none⟩ = some (.slice (some ⟨o, 0, none⟩) L cap) ∧ w'.cell? ⟨g, 3, none⟩ = some (.int .i64 (pos : Nat))) (by kernel_rfl) ⟨k0, k2, k3⟩ (fun hS => ?_)
    refine wpAnyH_take (i := 0) (oi := { dst := some 3, op := Op.move (Operand.tmp 0), type := 55, pos := "rcdec.go:76", after := #[], guard := none }) (v := ?va1) rfl (by kernel_rfl) (by kernel_rfl) (by kernel_rfl) (fun _ _ _ h => h) (Or.inl ⟨by rfl, ?ya1⟩) hS ?_
    case ya1 =>
      intro w hSw
      go_simp; all_goals (with_reducible rfl)
    simp only [Act.put, List.setIfInBounds_toArray, List.set_cons_zero, List.set_cons_succ]
    refine wpAnyH_ready (rs := [1]) (by kernel_rfl) (by simp) ?_
    refine (AllReadyH.cons (o := { dst := some 4, op := Op.call { callee := Callee.value (Operand.func 42), args := #[Operand.tmp 3], argTypes := #[55] }, type := 4, pos := "rcdec.go:76", after := #[{ on := 0, ground := Ground.data }], guard := none }) rfl (fun K hK => ?_) AllReadyH.nil)
    go_simp
    refine (hO.out _ (hT.below (drew_below _))).mono ?_
    rintro e w2 ⟨rfl, rfl⟩
    go_wp2_with fail
    refine hK.out _ _ hS (fun _ => ?_)
    clear hK K
    refine wpAnyH_take (i := 2) (oi := { dst := some 5, op := Op.unOp UnOp.not 4 (Operand.tmp 4), type := 4, pos := "rcdec.go:76", after := #[{ on := 1, ground := Ground.data }], guard := none }) (v := ?va2) rfl (by kernel_rfl) (by kernel_rfl) (by kernel_rfl) (fun _ _ _ h => h) (Or.inl ⟨by rfl, ?ya2⟩) hS ?_
    case ya2 =>
      intro w hSw
      go_simp; all_goals (with_reducible rfl)
    simp only [Act.put, List.setIfInBounds_toArray, List.set_cons_zero, List.set_cons_succ]
    refine wpAnyH_take (i := 3) (oi := { dst := some 6, op := Op.move (Operand.tmp 5), type := 4, pos := "rcdec.go:76", after := #[{ on := 2, ground := Ground.data }, { on := 1, ground := Ground.chain }], guard := none }) (v := ?va3) rfl (by kernel_rfl) (by kernel_rfl) (by kernel_rfl) (fun _ _ _ h => h) (Or.inl ⟨by rfl, ?ya3⟩) hS ?_
    case ya3 =>
      intro w hSw
      go_simp; all_goals (with_reducible rfl)
    simp only [Act.put, List.setIfInBounds_toArray, List.set_cons_zero, List.set_cons_succ]
    refine wpAnyH_take (i := 4) (oi := { dst := some 7, op := Op.move (Operand.tmp 0), type := 55, pos := "rcdec.go:76", after := #[{ on := 3, ground := Ground.guard }], guard := some (3, true) }) (v := undef) rfl (by kernel_rfl) (by kernel_rfl) (by kernel_rfl) (fun _ _ _ h => h) (Or.inr ⟨by rfl, rfl⟩) hS ?_
    simp only [Act.put, List.setIfInBounds_toArray, List.set_cons_zero, List.set_cons_succ]
    refine wpAnyH_take (i := 5) (oi := { dst := some 8, op := Op.nilCheck (Operand.tmp 7), type := 0, pos := "rcdec.go:76", after := #[{ on := 4, ground := Ground.data }, { on := 3, ground := Ground.guard }], guard := some (3, true) }) (v := undef) rfl (by kernel_rfl) (by kernel_rfl) (by kernel_rfl) (fun _ _ _ h => h) (Or.inr ⟨by rfl, rfl⟩) hS ?_
    simp only [Act.put, List.setIfInBounds_toArray, List.set_cons_zero, List.set_cons_succ]
    refine wpAnyH_take (i := 6) (oi := { dst := some 9, op := Op.fieldAddr 91 (Operand.tmp 8) 3, type := 0, pos := "rcdec.go:76", after := #[{ on := 5, ground := Ground.data }, { on := 3, ground := Ground.guard }], guard := some (3, true) }) (v := undef) rfl (by kernel_rfl) (by kernel_rfl) (by kernel_rfl) (fun _ _ _ h => h) (Or.inr ⟨by rfl, rfl⟩) hS ?_
    simp only [Act.put, List.setIfInBounds_toArray, List.set_cons_zero, List.set_cons_succ]
    refine wpAnyH_take (i := 7) (oi := { dst := some 10, op := Op.load 3 (Operand.tmp 9), type := 3, pos := "rcdec.go:76", after := #[{ on := 6, ground := Ground.data }, { on := 3, ground := Ground.guard }], guard := some (3, true) }) (v := undef) rfl (by kernel_rfl) (by kernel_rfl) (by kernel_rfl) (fun _ _ _ h => h) (Or.inr ⟨by rfl, rfl⟩) hS ?_
    simp only [Act.put, List.setIfInBounds_toArray, List.set_cons_zero, List.set_cons_succ]
    refine wpAnyH_take (i := 8) (oi := { dst := some 11, op := Op.move (Operand.tmp 0), type := 55, pos := "rcdec.go:76", after := #[{ on := 3, ground := Ground.guard }], guard := some (3, true) }) (v := undef) rfl (by kernel_rfl) (by kernel_rfl) (by kernel_rfl) (fun _ _ _ h => h) (Or.inr ⟨by rfl, rfl⟩) hS ?_
    simp only [Act.put, List.setIfInBounds_toArray, List.set_cons_zero, List.set_cons_succ]
    refine wpAnyH_take (i := 9) (oi := { dst := some 12, op := Op.nilCheck (Operand.tmp 11), type := 0, pos := "rcdec.go:76", after := #[{ on := 8, ground := Ground.data }, { on := 3, ground := Ground.guard }], guard := some (3, true) }) (v := undef) rfl (by kernel_rfl) (by kernel_rfl) (by kernel_rfl) (fun _ _ _ h => h) (Or.inr ⟨by rfl, rfl⟩) hS ?_
    simp only [Act.put, List.setIfInBounds_toArray, List.set_cons_zero, List.set_cons_succ]
    refine wpAnyH_take (i := 10) (oi := { dst := some 13, op := Op.fieldAddr 91 (Operand.tmp 12) 2, type := 0, pos := "rcdec.go:76", after := #[{ on := 9, ground := Ground.data }, { on := 3, ground := Ground.guard }], guard := some (3, true) }) (v := undef) rfl (by kernel_rfl) (by kernel_rfl) (by kernel_rfl) (fun _ _ _ h => h) (Or.inr ⟨by rfl, rfl⟩) hS ?_
    simp only [Act.put, List.setIfInBounds_toArray, List.set_cons_zero, List.set_cons_succ]
    refine wpAnyH_take (i := 11) (oi := { dst := some 14, op := Op.load 22 (Operand.tmp 13), type := 22, pos := "rcdec.go:76", after := #[{ on := 10, ground := Ground.data }, { on := 3, ground := Ground.guard }], guard := some (3, true) }) (v := undef) rfl (by kernel_rfl) (by kernel_rfl) (by kernel_rfl) (fun _ _ _ h => h) (Or.inr ⟨by rfl, rfl⟩) hS ?_
    simp only [Act.put, List.setIfInBounds_toArray, List.set_cons_zero, List.set_cons_succ]
    refine wpAnyH_take (i := 12) (oi := { dst := some 15, op := Op.call { callee := Callee.builtin Builtin.len, args := #[Operand.tmp 14], argTypes := #[22] }, type := 3, pos := "rcdec.go:76", after := #[{ on := 11, ground := Ground.data }, { on := 3, ground := Ground.guard }], guard := some (3, true) }) (v := undef) rfl (by kernel_rfl) (by kernel_rfl) (by kernel_rfl) (fun _ _ _ h => h) (Or.inr ⟨by rfl, rfl⟩) hS ?_
    simp only [Act.put, List.setIfInBounds_toArray, List.set_cons_zero, List.set_cons_succ]
    refine wpAnyH_take (i := 13) (oi := { dst := some 16, op := Op.binOp BinOp.eql 3 (Operand.tmp 10) (Operand.tmp 15) 3, type := 4, pos := "rcdec.go:76", after := #[{ on := 7, ground := Ground.data }, { on := 12, ground := Ground.data }, { on := 3, ground := Ground.guard }], guard := some (3, true) }) (v := undef) rfl (by kernel_rfl) (by kernel_rfl) (by kernel_rfl) (fun _ _ _ h => h) (Or.inr ⟨by rfl, rfl⟩) hS ?_
    simp only [Act.put, List.setIfInBounds_toArray, List.set_cons_zero, List.set_cons_succ]
    refine wpAnyH_take (i := 14) (oi := { dst := some 17, op := Op.pick (Operand.tmp 6) (Operand.tmp 16) (Operand.const (Value.bool false)), type := 4, pos := "rcdec.go:76", after := #[{ on := 3, ground := Ground.data }, { on := 13, ground := Ground.data }], guard := none }) (v := ?va14) rfl (by kernel_rfl) (by kernel_rfl) (by kernel_rfl) (fun _ _ _ h => h) (Or.inl ⟨by rfl, ?ya14⟩) hS ?_
    case ya14 =>
      intro w hSw
      go_simp; all_goals (with_reducible rfl)
    simp only [Act.put, List.setIfInBounds_toArray, List.set_cons_zero, List.set_cons_succ]
    refine wpAnyH_take (i := 15) (oi := { dst := some 18, op := Op.move (Operand.tmp 17), type := 4, pos := "rcdec.go:76", after := #[{ on := 14, ground := Ground.data }, { on := 3, ground := Ground.chain }], guard := none }) (v := ?va15) rfl (by kernel_rfl) (by kernel_rfl) (by kernel_rfl) (fun _ _ _ h => h) (Or.inl ⟨by rfl, ?ya15⟩) hS ?_
    case ya15 =>
      intro w hSw
      go_simp; all_goals (with_reducible rfl)
    simp only [Act.put, List.setIfInBounds_toArray, List.set_cons_zero, List.set_cons_succ]
    refine wpAnyH_take (i := 16) (oi := { dst := some 19, op := Op.move (Operand.tmp 0), type := 55, pos := "rcdec.go:76", after := #[{ on := 15, ground := Ground.guard }], guard := some (15, true) }) (v := undef) rfl (by kernel_rfl) (by kernel_rfl) (by kernel_rfl) (fun _ _ _ h => h) (Or.inr ⟨by rfl, rfl⟩) hS ?_
    simp only [Act.put, List.setIfInBounds_toArray, List.set_cons_zero, List.set_cons_succ]
    refine wpAnyH_take (i := 17) (oi := { dst := some 20, op := Op.nilCheck (Operand.tmp 19), type := 0, pos := "rcdec.go:76", after := #[{ on := 16, ground := Ground.data }, { on := 15, ground := Ground.guard }], guard := some (15, true) }) (v := undef) rfl (by kernel_rfl) (by kernel_rfl) (by kernel_rfl) (fun _ _ _ h => h) (Or.inr ⟨by rfl, rfl⟩) hS ?_
    simp only [Act.put, List.setIfInBounds_toArray, List.set_cons_zero, List.set_cons_succ]
    refine wpAnyH_take (i := 18) (oi := { dst := some 21, op := Op.fieldAddr 91 (Operand.tmp 20) 0, type := 0, pos := "rcdec.go:76", after := #[{ on := 17, ground := Ground.data }, { on := 15, ground := Ground.guard }], guard := some (15, true) }) (v := undef) rfl (by kernel_rfl) (by kernel_rfl) (by kernel_rfl) (fun _ _ _ h => h) (Or.inr ⟨by rfl, rfl⟩) hS ?_
    simp only [Act.put, List.setIfInBounds_toArray, List.set_cons_zero, List.set_cons_succ]
    refine wpAnyH_take (i := 19) (oi := { dst := some 22, op := Op.load 78 (Operand.tmp 21), type := 78, pos := "rcdec.go:76", after := #[{ on := 18, ground := Ground.data }, { on := 15, ground := Ground.guard }], guard := some (15, true) }) (v := undef) rfl (by kernel_rfl) (by kernel_rfl) (by kernel_rfl) (fun _ _ _ h => h) (Or.inr ⟨by rfl, rfl⟩) hS ?_
    simp only [Act.put, List.setIfInBounds_toArray, List.set_cons_zero, List.set_cons_succ]
    refine wpAnyH_take (i := 20) (oi := { dst := some 23, op := Op.binOp BinOp.eql 78 (Operand.tmp 22) (Operand.const (Value.int IntKind.u32 0)) 78, type := 4, pos := "rcdec.go:76", after := #[{ on := 19, ground := Ground.data }, { on := 15, ground := Ground.guard }], guard := some (15, true) }) (v := undef) rfl (by kernel_rfl) (by kernel_rfl) (by kernel_rfl) (fun _ _ _ h => h) (Or.inr ⟨by rfl, rfl⟩) hS ?_
    simp only [Act.put, List.setIfInBounds_toArray, List.set_cons_zero, List.set_cons_succ]
    refine wpAnyH_take (i := 21) (oi := { dst := some 24, op := Op.pick (Operand.tmp 18) (Operand.tmp 23) (Operand.const (Value.bool false)), type := 4, pos := "rcdec.go:76", after := #[{ on := 15, ground := Ground.data }, { on := 20, ground := Ground.data }], guard := none }) (v := ?va21) rfl (by kernel_rfl) (by kernel_rfl) (by kernel_rfl) (fun _ _ _ h => h) (Or.inl ⟨by rfl, ?ya21⟩) hS ?_
    case ya21 =>
      intro w hSw
      go_simp; all_goals (with_reducible rfl)
    simp only [Act.put, List.setIfInBounds_toArray, List.set_cons_zero, List.set_cons_succ]
    refine wpAnyH_take (i := 22) (oi := { dst := some 2, op := Op.assign (Operand.tmp 24), type := 4, pos := "rcdec.go:76", after := #[{ on := 21, ground := Ground.data }, { on := 15, ground := Ground.chain }, { on := 0, ground := Ground.phase }, { on := 1, ground := Ground.phase }, { on := 2, ground := Ground.phase }, { on := 3, ground := Ground.phase }, { on := 4, ground := Ground.phase }, { on := 5, ground := Ground.phase }, { on := 6, ground := Ground.phase }, { on := 7, ground := Ground.phase }, { on := 8, ground := Ground.phase }, { on := 9, ground := Ground.phase }, { on := 10, ground := Ground.phase }, { on := 11, ground := Ground.phase }, { on := 12, ground := Ground.phase }, { on := 13, ground := Ground.phase }, { on := 14, ground := Ground.phase }, { on := 15, ground := Ground.phase }, { on := 16, ground := Ground.phase }, { on := 17, ground := Ground.phase }, { on := 18, ground := Ground.phase }, { on := 19, ground := Ground.phase }, { on := 20, ground := Ground.phase }, { on := 21, ground := Ground.phase }], guard := none }) (v := ?va22) rfl (by kernel_rfl) (by kernel_rfl) (by kernel_rfl) (fun _ _ _ h => h) (Or.inl ⟨by rfl, ?ya22⟩) hS ?_
    case ya22 =>
      intro w hSw
      go_simp; all_goals (with_reducible rfl)
    simp only [Act.put, List.setIfInBounds_toArray, List.set_cons_zero, List.set_cons_succ]
    refine wpAnyH_done (by kernel_rfl) ?_ _
    go_wp2_with fail
    go_ret
    exact ⟨rfl, (Below.refl _ _).drew⟩
  | false =>
    obtain rfl : c = x := (hxy rfl).1.symm
    have hd : Rd.St.done l ⟨pos, c, r, false⟩ = (pos == l.length && c == 0) := rfl
    rw [hd]
    clear hxy hd
    generalize l.length = L at k2 ⊢
    by_cases hp : pos = L
    · have hpi : ((pos : Int) == (L : Int)) = true := by simp [hp]
      by_cases hc : c = 0
      · have hci : ((c : Int) == 0) = true := by simp [hc]
        rw [show (pos == L && c == 0) = true by simp [hp, hc]]
        clear hp hc
        go_enter Try.func25, Try.ntmps25
        go_wp2_with fail
        refine wp_region_held_drew (S := fun w' => w'.cell? ⟨g, 0, none⟩ = some (.int .u32 (c : Nat)) ∧ w'.cell? ⟨g, 2, none⟩ = some (.slice (some ⟨o, 0, none⟩) L cap) ∧ w'.cell? ⟨g, 3, none⟩ = some (.int .i64 (pos : Nat))) (by kernel_rfl) ⟨k0, k2, k3⟩ (fun hS => ?_)
        refine wpAnyH_take (i := 0) (oi := { dst := some 3, op := Op.move (Operand.tmp 0), type := 55, pos := "rcdec.go:76", after := #[], guard := none }) (v := ?vb23) rfl (by kernel_rfl) (by kernel_rfl) (by kernel_rfl) (fun _ _ _ h => h) (Or.inl ⟨by rfl, ?yb23⟩) hS ?_
        case yb23 =>
          intro w hSw
          go_simp; all_goals (with_reducible rfl)
        simp only [Act.put, List.setIfInBounds_toArray, List.set_cons_zero, List.set_cons_succ]
        refine wpAnyH_ready (rs := [1]) (by kernel_rfl) (by simp) ?_
        refine (AllReadyH.cons (o := { dst := some 4, op := Op.call { callee := Callee.value (Operand.func 42), args := #[Operand.tmp 3], argTypes := #[55] }, type := 4, pos := "rcdec.go:76", after := #[{ on := 0, ground := Ground.data }], guard := none }) rfl (fun K hK => ?_) AllReadyH.nil)
        go_simp
        refine (hO.out _ (hT.below (drew_below _))).mono ?_
        rintro e w2 ⟨rfl, rfl⟩
        go_wp2_with fail
        refine hK.out _ _ hS (fun _ => ?_)
        clear hK K
        refine wpAnyH_take (i := 2) (oi := { dst := some 5, op := Op.unOp UnOp.not 4 (Operand.tmp 4), type := 4, pos := "rcdec.go:76", after := #[{ on := 1, ground := Ground.data }], guard := none }) (v := ?vb24) rfl (by kernel_rfl) (by kernel_rfl) (by kernel_rfl) (fun _ _ _ h => h) (Or.inl ⟨by rfl, ?yb24⟩) hS ?_
        case yb24 =>
          intro w hSw
          go_simp; all_goals (with_reducible rfl)
        simp only [Act.put, List.setIfInBounds_toArray, List.set_cons_zero, List.set_cons_succ]
        refine wpAnyH_take (i := 3) (oi := { dst := some 6, op := Op.move (Operand.tmp 5), type := 4, pos := "rcdec.go:76", after := #[{ on := 2, ground := Ground.data }, { on := 1, ground := Ground.chain }], guard := none }) (v := ?vb25) rfl (by kernel_rfl) (by kernel_rfl) (by kernel_rfl) (fun _ _ _ h => h) (Or.inl ⟨by rfl, ?yb25⟩) hS ?_
        case yb25 =>
          intro w hSw
          go_simp; all_goals (with_reducible rfl)
        simp only [Act.put, List.setIfInBounds_toArray, List.set_cons_zero, List.set_cons_succ]
        refine wpAnyH_take (i := 4) (oi := { dst := some 7, op := Op.move (Operand.tmp 0), type := 55, pos := "rcdec.go:76", after := #[{ on := 3, ground := Ground.guard }], guard := some (3, true) }) (v := ?vb26) rfl (by kernel_rfl) (by kernel_rfl) (by kernel_rfl) (fun _ _ _ h => h) (Or.inl ⟨by rfl, ?yb26⟩) hS ?_
        case yb26 =>
          intro w hSw
          go_simp; all_goals (with_reducible rfl)
        simp only [Act.put, List.setIfInBounds_toArray, List.set_cons_zero, List.set_cons_succ]
        refine wpAnyH_take (i := 5) (oi := { dst := some 8, op := Op.nilCheck (Operand.tmp 7), type := 0, pos := "rcdec.go:76", after := #[{ on := 4, ground := Ground.data }, { on := 3, ground := Ground.guard }], guard := some (3, true) }) (v := ?vb27) rfl (by kernel_rfl) (by kernel_rfl) (by kernel_rfl) (fun _ _ _ h => h) (Or.inl ⟨by rfl, ?yb27⟩) hS ?_
        case yb27 =>
          intro w hSw
          go_simp; all_goals (with_reducible rfl)
        simp only [Act.put, List.setIfInBounds_toArray, List.set_cons_zero, List.set_cons_succ]
        refine wpAnyH_take (i := 6) (oi := { dst := some 9, op := Op.fieldAddr 91 (Operand.tmp 8) 3, type := 0, pos := "rcdec.go:76", after := #[{ on := 5, ground := Ground.data }, { on := 3, ground := Ground.guard }], guard := some (3, true) }) (v := ?vb28) rfl (by kernel_rfl) (by kernel_rfl) (by kernel_rfl) (fun _ _ _ h => h) (Or.inl ⟨by rfl, ?yb28⟩) hS ?_
        case yb28 =>
          intro w hSw
          go_simp; all_goals (with_reducible rfl)
        simp only [Act.put, List.setIfInBounds_toArray, List.set_cons_zero, List.set_cons_succ]
        refine wpAnyH_take (i := 7) (oi := { dst := some 10, op := Op.load 3 (Operand.tmp 9), type := 3, pos := "rcdec.go:76", after := #[{ on := 6, ground := Ground.data }, { on := 3, ground := Ground.guard }], guard := some (3, true) }) (v := ?vb29) rfl (by kernel_rfl) (by kernel_rfl) (by kernel_rfl) (fun _ _ _ h => h) (Or.inl ⟨by rfl, ?yb29⟩) hS ?_
        case yb29 =>
          intro w hSw
          obtain ⟨j0, j2, j3⟩ := hSw
          go_simp; all_goals (with_reducible rfl)
        simp only [Act.put, List.setIfInBounds_toArray, List.set_cons_zero, List.set_cons_succ]
        refine wpAnyH_take (i := 8) (oi := { dst := some 11, op := Op.move (Operand.tmp 0), type := 55, pos := "rcdec.go:76", after := #[{ on := 3, ground := Ground.guard }], guard := some (3, true) }) (v := ?vb30) rfl (by kernel_rfl) (by kernel_rfl) (by kernel_rfl) (fun _ _ _ h => h) (Or.inl ⟨by rfl, ?yb30⟩) hS ?_
        case yb30 =>
          intro w hSw
          go_simp; all_goals (with_reducible rfl)
        simp only [Act.put, List.setIfInBounds_toArray, List.set_cons_zero, List.set_cons_succ]
        refine wpAnyH_take (i := 9) (oi := { dst := some 12, op := Op.nilCheck (Operand.tmp 11), type := 0, pos := "rcdec.go:76", after := #[{ on := 8, ground := Ground.data }, { on := 3, ground := Ground.guard }], guard := some (3, true) }) (v := ?vb31) rfl (by kernel_rfl) (by kernel_rfl) (by kernel_rfl) (fun _ _ _ h => h) (Or.inl ⟨by rfl, ?yb31⟩) hS ?_
        case yb31 =>
          intro w hSw
          go_simp; all_goals (with_reducible rfl)
        simp only [Act.put, List.setIfInBounds_toArray, List.set_cons_zero, List.set_cons_succ]
        refine wpAnyH_take (i := 10) (oi := { dst := some 13, op := Op.fieldAddr 91 (Operand.tmp 12) 2, type := 0, pos := "rcdec.go:76", after := #[{ on := 9, ground := Ground.data }, { on := 3, ground := Ground.guard }], guard := some (3, true) }) (v := ?vb32) rfl (by kernel_rfl) (by kernel_rfl) (by kernel_rfl) (fun _ _ _ h => h) (Or.inl ⟨by rfl, ?yb32⟩) hS ?_
        case yb32 =>
          intro w hSw
          go_simp; all_goals (with_reducible rfl)
        simp only [Act.put, List.setIfInBounds_toArray, List.set_cons_zero, List.set_cons_succ]
        refine wpAnyH_take (i := 11) (oi := { dst := some 14, op := Op.load 22 (Operand.tmp 13), type := 22, pos := "rcdec.go:76", after := #[{ on := 10, ground := Ground.data }, { on := 3, ground := Ground.guard }], guard := some (3, true) }) (v := ?vb33) rfl (by kernel_rfl) (by kernel_rfl) (by kernel_rfl) (fun _ _ _ h => h) (Or.inl ⟨by rfl, ?yb33⟩) hS ?_
        case yb33 =>
          intro w hSw
          obtain ⟨j0, j2, j3⟩ := hSw
          go_simp; all_goals (with_reducible rfl)
        simp only [Act.put, List.setIfInBounds_toArray, List.set_cons_zero, List.set_cons_succ]
        refine wpAnyH_take (i := 12) (oi := { dst := some 15, op := Op.call { callee := Callee.builtin Builtin.len, args := #[Operand.tmp 14], argTypes := #[22] }, type := 3, pos := "rcdec.go:76", after := #[{ on := 11, ground := Ground.data }, { on := 3, ground := Ground.guard }], guard := some (3, true) }) (v := ?vb34) rfl (by kernel_rfl) (by kernel_rfl) (by kernel_rfl) (fun _ _ _ h => h) (Or.inl ⟨by rfl, ?yb34⟩) hS ?_
        case yb34 =>
          intro w hSw
          go_simp; all_goals (with_reducible rfl)
        simp only [Act.put, List.setIfInBounds_toArray, List.set_cons_zero, List.set_cons_succ]
        refine wpAnyH_take (i := 13) (oi := { dst := some 16, op := Op.binOp BinOp.eql 3 (Operand.tmp 10) (Operand.tmp 15) 3, type := 4, pos := "rcdec.go:76", after := #[{ on := 7, ground := Ground.data }, { on := 12, ground := Ground.data }, { on := 3, ground := Ground.guard }], guard := some (3, true) }) (v := ?vb35) rfl (by kernel_rfl) (by kernel_rfl) (by kernel_rfl) (fun _ _ _ h => h) (Or.inl ⟨by rfl, ?yb35⟩) hS ?_
        case yb35 =>
          intro w hSw
          go_simp; all_goals (with_reducible rfl)
        simp only [Act.put, List.setIfInBounds_toArray, List.set_cons_zero, List.set_cons_succ]
        refine wpAnyH_take (i := 14) (oi := { dst := some 17, op := Op.pick (Operand.tmp 6) (Operand.tmp 16) (Operand.const (Value.bool false)), type := 4, pos := "rcdec.go:76", after := #[{ on := 3, ground := Ground.data }, { on := 13, ground := Ground.data }], guard := none }) (v := ?vb36) rfl (by kernel_rfl) (by kernel_rfl) (by kernel_rfl) (fun _ _ _ h => h) (Or.inl ⟨by rfl, ?yb36⟩) hS ?_
        case yb36 =>
          intro w hSw
          go_simp; all_goals (with_reducible rfl)
        simp only [Act.put, List.setIfInBounds_toArray, List.set_cons_zero, List.set_cons_succ]
        refine wpAnyH_take (i := 15) (oi := { dst := some 18, op := Op.move (Operand.tmp 17), type := 4, pos := "rcdec.go:76", after := #[{ on := 14, ground := Ground.data }, { on := 3, ground := Ground.chain }], guard := none }) (v := ?vb37) rfl (by kernel_rfl) (by kernel_rfl) (by kernel_rfl) (fun _ _ _ h => h) (Or.inl ⟨by rfl, ?yb37⟩) hS ?_
        case yb37 =>
          intro w hSw
          go_simp; all_goals (with_reducible rfl)
        simp only [Act.put, List.setIfInBounds_toArray, List.set_cons_zero, List.set_cons_succ]
        refine wpAnyH_take (i := 16) (oi := { dst := some 19, op := Op.move (Operand.tmp 0), type := 55, pos := "rcdec.go:76", after := #[{ on := 15, ground := Ground.guard }], guard := some (15, true) }) (v := ?vb38) rfl (by kernel_rfl) (by kernel_rfl) (by kernel_rfl) (fun _ _ _ h => h) (Or.inl ⟨by rfl, ?yb38⟩) hS ?_
        case yb38 =>
          intro w hSw
          go_simp; all_goals (with_reducible rfl)
        simp only [Act.put, List.setIfInBounds_toArray, List.set_cons_zero, List.set_cons_succ]
        refine wpAnyH_take (i := 17) (oi := { dst := some 20, op := Op.nilCheck (Operand.tmp 19), type := 0, pos := "rcdec.go:76", after := #[{ on := 16, ground := Ground.data }, { on := 15, ground := Ground.guard }], guard := some (15, true) }) (v := ?vb39) rfl (by kernel_rfl) (by kernel_rfl) (by kernel_rfl) (fun _ _ _ h => h) (Or.inl ⟨by rfl, ?yb39⟩) hS ?_
        case yb39 =>
          intro w hSw
          go_simp; all_goals (with_reducible rfl)
        simp only [Act.put, List.setIfInBounds_toArray, List.set_cons_zero, List.set_cons_succ]
        refine wpAnyH_take (i := 18) (oi := { dst := some 21, op := Op.fieldAddr 91 (Operand.tmp 20) 0, type := 0, pos := "rcdec.go:76", after := #[{ on := 17, ground := Ground.data }, { on := 15, ground := Ground.guard }], guard := some (15, true) }) (v := ?vb40) rfl (by kernel_rfl) (by kernel_rfl) (by kernel_rfl) (fun _ _ _ h => h) (Or.inl ⟨by rfl, ?yb40⟩) hS ?_
        case yb40 =>
          intro w hSw
          go_simp; all_goals (with_reducible rfl)
        simp only [Act.put, List.setIfInBounds_toArray, List.set_cons_zero, List.set_cons_succ]
        refine wpAnyH_take (i := 19) (oi := { dst := some 22, op := Op.load 78 (Operand.tmp 21), type := 78, pos := "rcdec.go:76", after := #[{ on := 18, ground := Ground.data }, { on := 15, ground := Ground.guard }], guard := some (15, true) }) (v := ?vb41) rfl (by kernel_rfl) (by kernel_rfl) (by kernel_rfl) (fun _ _ _ h => h) (Or.inl ⟨by rfl, ?yb41⟩) hS ?_
        case yb41 =>
          intro w hSw
          obtain ⟨j0, j2, j3⟩ := hSw
          go_simp; all_goals (with_reducible rfl)
        simp only [Act.put, List.setIfInBounds_toArray, List.set_cons_zero, List.set_cons_succ]
        refine wpAnyH_take (i := 20) (oi := { dst := some 23, op := Op.binOp BinOp.eql 78 (Operand.tmp 22) (Operand.const (Value.int IntKind.u32 0)) 78, type := 4, pos := "rcdec.go:76", after := #[{ on := 19, ground := Ground.data }, { on := 15, ground := Ground.guard }], guard := some (15, true) }) (v := ?vb42) rfl (by kernel_rfl) (by kernel_rfl) (by kernel_rfl) (fun _ _ _ h => h) (Or.inl ⟨by rfl, ?yb42⟩) hS ?_
        case yb42 =>
          intro w hSw
          go_simp; all_goals (with_reducible rfl)
        simp only [Act.put, List.setIfInBounds_toArray, List.set_cons_zero, List.set_cons_succ]
        refine wpAnyH_take (i := 21) (oi := { dst := some 24, op := Op.pick (Operand.tmp 18) (Operand.tmp 23) (Operand.const (Value.bool false)), type := 4, pos := "rcdec.go:76", after := #[{ on := 15, ground := Ground.data }, { on := 20, ground := Ground.data }], guard := none }) (v := ?vb43) rfl (by kernel_rfl) (by kernel_rfl) (by kernel_rfl) (fun _ _ _ h => h) (Or.inl ⟨by rfl, ?yb43⟩) hS ?_
        case yb43 =>
          intro w hSw
          go_simp; all_goals (with_reducible rfl)
        simp only [Act.put, List.setIfInBounds_toArray, List.set_cons_zero, List.set_cons_succ]
        refine wpAnyH_take (i := 22) (oi := { dst := some 2, op := Op.assign (Operand.tmp 24), type := 4, pos := "rcdec.go:76", after := #[{ on := 21, ground := Ground.data }, { on := 15, ground := Ground.chain }, { on := 0, ground := Ground.phase }, { on := 1, ground := Ground.phase }, { on := 2, ground := Ground.phase }, { on := 3, ground := Ground.phase }, { on := 4, ground := Ground.phase }, { on := 5, ground := Ground.phase }, { on := 6, ground := Ground.phase }, { on := 7, ground := Ground.phase }, { on := 8, ground := Ground.phase }, { on := 9, ground := Ground.phase }, { on := 10, ground := Ground.phase }, { on := 11, ground := Ground.phase }, { on := 12, ground := Ground.phase }, { on := 13, ground := Ground.phase }, { on := 14, ground := Ground.phase }, { on := 15, ground := Ground.phase }, { on := 16, ground := Ground.phase }, { on := 17, ground := Ground.phase }, { on := 18, ground := Ground.phase }, { on := 19, ground := Ground.phase }, { on := 20, ground := Ground.phase }, { on := 21, ground := Ground.phase }], guard := none }) (v := ?vb44) rfl (by kernel_rfl) (by kernel_rfl) (by kernel_rfl) (fun _ _ _ h => h) (Or.inl ⟨by rfl, ?yb44⟩) hS ?_
        case yb44 =>
          intro w hSw
          go_simp; all_goals (with_reducible rfl)
        simp only [Act.put, List.setIfInBounds_toArray, List.set_cons_zero, List.set_cons_succ]
        refine wpAnyH_done (by kernel_rfl) ?_ _
        go_wp2_with fail
        go_ret
        exact ⟨rfl, (Below.refl _ _).drew⟩
      · have hci : ((c : Int) == 0) = false := beq_eq_false_iff_ne.2 (by omega)
        rw [show (pos == L && c == 0) = false by simp [hc]]
        clear hp hc
        go_enter Try.func25, Try.ntmps25
        go_wp2_with fail
        refine wp_region_held_drew (S := fun w' => w'.cell? ⟨g, 0, none⟩ = some (.int .u32 (c : Nat)) ∧ w'.cell? ⟨g, 2, none⟩ = some (.slice (some ⟨o, 0, none⟩) L cap) ∧ w'.cell? ⟨g, 3, none⟩ = some (.int .i64 (pos : Nat))) (by kernel_rfl) ⟨k0, k2, k3⟩ (fun hS => ?_)
        refine wpAnyH_take (i := 0) (oi := { dst := some 3, op := Op.move (Operand.tmp 0), type := 55, pos := "rcdec.go:76", after := #[], guard := none }) (v := ?vc45) rfl (by kernel_rfl) (by kernel_rfl) (by kernel_rfl) (fun _ _ _ h => h) (Or.inl ⟨by rfl, ?yc45⟩) hS ?_
        case yc45 =>
          intro w hSw
          go_simp; all_goals (with_reducible rfl)
        simp only [Act.put, List.setIfInBounds_toArray, List.set_cons_zero, List.set_cons_succ]
        refine wpAnyH_ready (rs := [1]) (by kernel_rfl) (by simp) ?_
        refine (AllReadyH.cons (o := { dst := some 4, op := Op.call { callee := Callee.value (Operand.func 42), args := #[Operand.tmp 3], argTypes := #[55] }, type := 4, pos := "rcdec.go:76", after := #[{ on := 0, ground := Ground.data }], guard := none }) rfl (fun K hK => ?_) AllReadyH.nil)
        go_simp
        refine (hO.out _ (hT.below (drew_below _))).mono ?_
        rintro e w2 ⟨rfl, rfl⟩
        go_wp2_with fail
        refine hK.out _ _ hS (fun _ => ?_)
        clear hK K
        refine wpAnyH_take (i := 2) (oi := { dst := some 5, op := Op.unOp UnOp.not 4 (Operand.tmp 4), type := 4, pos := "rcdec.go:76", after := #[{ on := 1, ground := Ground.data }], guard := none }) (v := ?vc46) rfl (by kernel_rfl) (by kernel_rfl) (by kernel_rfl) (fun _ _ _ h => h) (Or.inl ⟨by rfl, ?yc46⟩) hS ?_
        case yc46 =>
          intro w hSw
          go_simp; all_goals (with_reducible rfl)
        simp only [Act.put, List.setIfInBounds_toArray, List.set_cons_zero, List.set_cons_succ]
        refine wpAnyH_take (i := 3) (oi := { dst := some 6, op := Op.move (Operand.tmp 5), type := 4, pos := "rcdec.go:76", after := #[{ on := 2, ground := Ground.data }, { on := 1, ground := Ground.chain }], guard := none }) (v := ?vc47) rfl (by kernel_rfl) (by kernel_rfl) (by kernel_rfl) (fun _ _ _ h => h) (Or.inl ⟨by rfl, ?yc47⟩) hS ?_
        case yc47 =>
          intro w hSw
          go_simp; all_goals (with_reducible rfl)
        simp only [Act.put, List.setIfInBounds_toArray, List.set_cons_zero, List.set_cons_succ]
        refine wpAnyH_take (i := 4) (oi := { dst := some 7, op := Op.move (Operand.tmp 0), type := 55, pos := "rcdec.go:76", after := #[{ on := 3, ground := Ground.guard }], guard := some (3, true) }) (v := ?vc48) rfl (by kernel_rfl) (by kernel_rfl) (by kernel_rfl) (fun _ _ _ h => h) (Or.inl ⟨by rfl, ?yc48⟩) hS ?_
        case yc48 =>
          intro w hSw
          go_simp; all_goals (with_reducible rfl)
        simp only [Act.put, List.setIfInBounds_toArray, List.set_cons_zero, List.set_cons_succ]
        refine wpAnyH_take (i := 5) (oi := { dst := some 8, op := Op.nilCheck (Operand.tmp 7), type := 0, pos := "rcdec.go:76", after := #[{ on := 4, ground := Ground.data }, { on := 3, ground := Ground.guard }], guard := some (3, true) }) (v := ?vc49) rfl (by kernel_rfl) (by kernel_rfl) (by kernel_rfl) (fun _ _ _ h => h) (Or.inl ⟨by rfl, ?yc49⟩) hS ?_
        case yc49 =>
          intro w hSw
          go_simp; all_goals (with_reducible rfl)
        simp only [Act.put, List.setIfInBounds_toArray, List.set_cons_zero, List.set_cons_succ]
        refine wpAnyH_take (i := 6) (oi := { dst := some 9, op := Op.fieldAddr 91 (Operand.tmp 8) 3, type := 0, pos := "rcdec.go:76", after := #[{ on := 5, ground := Ground.data }, { on := 3, ground := Ground.guard }], guard := some (3, true) }) (v := ?vc50) rfl (by kernel_rfl) (by kernel_rfl) (by kernel_rfl) (fun _ _ _ h => h) (Or.inl ⟨by rfl, ?yc50⟩) hS ?_
        case yc50 =>
          intro w hSw
          go_simp; all_goals (with_reducible rfl)
        simp only [Act.put, List.setIfInBounds_toArray, List.set_cons_zero, List.set_cons_succ]
        refine wpAnyH_take (i := 7) (oi := { dst := some 10, op := Op.load 3 (Operand.tmp 9), type := 3, pos := "rcdec.go:76", after := #[{ on := 6, ground := Ground.data }, { on := 3, ground := Ground.guard }], guard := some (3, true) }) (v := ?vc51) rfl (by kernel_rfl) (by kernel_rfl) (by kernel_rfl) (fun _ _ _ h => h) (Or.inl ⟨by rfl, ?yc51⟩) hS ?_
        case yc51 =>
          intro w hSw
          obtain ⟨j0, j2, j3⟩ := hSw
          go_simp; all_goals (with_reducible rfl)
        simp only [Act.put, List.setIfInBounds_toArray, List.set_cons_zero, List.set_cons_succ]
        refine wpAnyH_take (i := 8) (oi := { dst := some 11, op := Op.move (Operand.tmp 0), type := 55, pos := "rcdec.go:76", after := #[{ on := 3, ground := Ground.guard }], guard := some (3, true) }) (v := ?vc52) rfl (by kernel_rfl) (by kernel_rfl) (by kernel_rfl) (fun _ _ _ h => h) (Or.inl ⟨by rfl, ?yc52⟩) hS ?_
        case yc52 =>
          intro w hSw
          go_simp; all_goals (with_reducible rfl)
        simp only [Act.put, List.setIfInBounds_toArray, List.set_cons_zero, List.set_cons_succ]
        refine wpAnyH_take (i := 9) (oi := { dst := some 12, op := Op.nilCheck (Operand.tmp 11), type := 0, pos := "rcdec.go:76", after := #[{ on := 8, ground := Ground.data }, { on := 3, ground := Ground.guard }], guard := some (3, true) }) (v := ?vc53) rfl (by kernel_rfl) (by kernel_rfl) (by kernel_rfl) (fun _ _ _ h => h) (Or.inl ⟨by rfl, ?yc53⟩) hS ?_
        case yc53 =>
          intro w hSw
          go_simp; all_goals (with_reducible rfl)
        simp only [Act.put, List.setIfInBounds_toArray, List.set_cons_zero, List.set_cons_succ]
        refine wpAnyH_take (i := 10) (oi := { dst := some 13, op := Op.fieldAddr 91 (Operand.tmp 12) 2, type := 0, pos := "rcdec.go:76", after := #[{ on := 9, ground := Ground.data }, { on := 3, ground := Ground.guard }], guard := some (3, true) }) (v := ?vc54) rfl (by kernel_rfl) (by kernel_rfl) (by kernel_rfl) (fun _ _ _ h => h) (Or.inl ⟨by rfl, ?yc54⟩) hS ?_
        case yc54 =>
          intro w hSw
          go_simp; all_goals (with_reducible rfl)
        simp only [Act.put, List.setIfInBounds_toArray, List.set_cons_zero, List.set_cons_succ]
        refine wpAnyH_take (i := 11) (oi := { dst := some 14, op := Op.load 22 (Operand.tmp 13), type := 22, pos := "rcdec.go:76", after := #[{ on := 10, ground := Ground.data }, { on := 3, ground := Ground.guard }], guard := some (3, true) }) (v := ?vc55) rfl (by kernel_rfl) (by kernel_rfl) (by kernel_rfl) (fun _ _ _ h => h) (Or.inl ⟨by rfl, ?yc55⟩) hS ?_
        case yc55 =>
          intro w hSw
          obtain ⟨j0, j2, j3⟩ := hSw
          go_simp; all_goals (with_reducible rfl)
        simp only [Act.put, List.setIfInBounds_toArray, List.set_cons_zero, List.set_cons_succ]
        refine wpAnyH_take (i := 12) (oi := { dst := some 15, op := Op.call { callee := Callee.builtin Builtin.len, args := #[Operand.tmp 14], argTypes := #[22] }, type := 3, pos := "rcdec.go:76", after := #[{ on := 11, ground := Ground.data }, { on := 3, ground := Ground.guard }], guard := some (3, true) }) (v := ?vc56) rfl (by kernel_rfl) (by kernel_rfl) (by kernel_rfl) (fun _ _ _ h => h) (Or.inl ⟨by rfl, ?yc56⟩) hS ?_
        case yc56 =>
          intro w hSw
          go_simp; all_goals (with_reducible rfl)
        simp only [Act.put, List.setIfInBounds_toArray, List.set_cons_zero, List.set_cons_succ]
        refine wpAnyH_take (i := 13) (oi := { dst := some 16, op := Op.binOp BinOp.eql 3 (Operand.tmp 10) (Operand.tmp 15) 3, type := 4, pos := "rcdec.go:76", after := #[{ on := 7, ground := Ground.data }, { on := 12, ground := Ground.data }, { on := 3, ground := Ground.guard }], guard := some (3, true) }) (v := ?vc57) rfl (by kernel_rfl) (by kernel_rfl) (by kernel_rfl) (fun _ _ _ h => h) (Or.inl ⟨by rfl, ?yc57⟩) hS ?_
        case yc57 =>
          intro w hSw
          go_simp; all_goals (with_reducible rfl)
        simp only [Act.put, List.setIfInBounds_toArray, List.set_cons_zero, List.set_cons_succ]
        refine wpAnyH_take (i := 14) (oi := { dst := some 17, op := Op.pick (Operand.tmp 6) (Operand.tmp 16) (Operand.const (Value.bool false)), type := 4, pos := "rcdec.go:76", after := #[{ on := 3, ground := Ground.data }, { on := 13, ground := Ground.data }], guard := none }) (v := ?vc58) rfl (by kernel_rfl) (by kernel_rfl) (by kernel_rfl) (fun _ _ _ h => h) (Or.inl ⟨by rfl, ?yc58⟩) hS ?_
        case yc58 =>
          intro w hSw
          go_simp; all_goals (with_reducible rfl)
        simp only [Act.put, List.setIfInBounds_toArray, List.set_cons_zero, List.set_cons_succ]
        refine wpAnyH_take (i := 15) (oi := { dst := some 18, op := Op.move (Operand.tmp 17), type := 4, pos := "rcdec.go:76", after := #[{ on := 14, ground := Ground.data }, { on := 3, ground := Ground.chain }], guard := none }) (v := ?vc59) rfl (by kernel_rfl) (by kernel_rfl) (by kernel_rfl) (fun _ _ _ h => h) (Or.inl ⟨by rfl, ?yc59⟩) hS ?_
        case yc59 =>
          intro w hSw
          go_simp; all_goals (with_reducible rfl)
        simp only [Act.put, List.setIfInBounds_toArray, List.set_cons_zero, List.set_cons_succ]
        refine wpAnyH_take (i := 16) (oi := { dst := some 19, op := Op.move (Operand.tmp 0), type := 55, pos := "rcdec.go:76", after := #[{ on := 15, ground := Ground.guard }], guard := some (15, true) }) (v := ?vc60) rfl (by kernel_rfl) (by kernel_rfl) (by kernel_rfl) (fun _ _ _ h => h) (Or.inl ⟨by rfl, ?yc60⟩) hS ?_
        case yc60 =>
          intro w hSw
          go_simp; all_goals (with_reducible rfl)
        simp only [Act.put, List.setIfInBounds_toArray, List.set_cons_zero, List.set_cons_succ]
        refine wpAnyH_take (i := 17) (oi := { dst := some 20, op := Op.nilCheck (Operand.tmp 19), type := 0, pos := "rcdec.go:76", after := #[{ on := 16, ground := Ground.data }, { on := 15, ground := Ground.guard }], guard := some (15, true) }) (v := ?vc61) rfl (by kernel_rfl) (by kernel_rfl) (by kernel_rfl) (fun _ _ _ h => h) (Or.inl ⟨by rfl, ?yc61⟩) hS ?_
        case yc61 =>
          intro w hSw
          go_simp; all_goals (with_reducible rfl)
        simp only [Act.put, List.setIfInBounds_toArray, List.set_cons_zero, List.set_cons_succ]
        refine wpAnyH_take (i := 18) (oi := { dst := some 21, op := Op.fieldAddr 91 (Operand.tmp 20) 0, type := 0, pos := "rcdec.go:76", after := #[{ on := 17, ground := Ground.data }, { on := 15, ground := Ground.guard }], guard := some (15, true) }) (v := ?vc62) rfl (by kernel_rfl) (by kernel_rfl) (by kernel_rfl) (fun _ _ _ h => h) (Or.inl ⟨by rfl, ?yc62⟩) hS ?_
        case yc62 =>
          intro w hSw
          go_simp; all_goals (with_reducible rfl)
        simp only [Act.put, List.setIfInBounds_toArray, List.set_cons_zero, List.set_cons_succ]
        refine wpAnyH_take (i := 19) (oi := { dst := some 22, op := Op.load 78 (Operand.tmp 21), type := 78, pos := "rcdec.go:76", after := #[{ on := 18, ground := Ground.data }, { on := 15, ground := Ground.guard }], guard := some (15, true) }) (v := ?vc63) rfl (by kernel_rfl) (by kernel_rfl) (by kernel_rfl) (fun _ _ _ h => h) (Or.inl ⟨by rfl, ?yc63⟩) hS ?_
        case yc63 =>
          intro w hSw
          obtain ⟨j0, j2, j3⟩ := hSw
          go_simp; all_goals (with_reducible rfl)
        simp only [Act.put, List.setIfInBounds_toArray, List.set_cons_zero, List.set_cons_succ]
        refine wpAnyH_take (i := 20) (oi := { dst := some 23, op := Op.binOp BinOp.eql 78 (Operand.tmp 22) (Operand.const (Value.int IntKind.u32 0)) 78, type := 4, pos := "rcdec.go:76", after := #[{ on := 19, ground := Ground.data }, { on := 15, ground := Ground.guard }], guard := some (15, true) }) (v := ?vc64) rfl (by kernel_rfl) (by kernel_rfl) (by kernel_rfl) (fun _ _ _ h => h) (Or.inl ⟨by rfl, ?yc64⟩) hS ?_
        case yc64 =>
          intro w hSw
          go_simp; all_goals (with_reducible rfl)
        simp only [Act.put, List.setIfInBounds_toArray, List.set_cons_zero, List.set_cons_succ]
        refine wpAnyH_take (i := 21) (oi := { dst := some 24, op := Op.pick (Operand.tmp 18) (Operand.tmp 23) (Operand.const (Value.bool false)), type := 4, pos := "rcdec.go:76", after := #[{ on := 15, ground := Ground.data }, { on := 20, ground := Ground.data }], guard := none }) (v := ?vc65) rfl (by kernel_rfl) (by kernel_rfl) (by kernel_rfl) (fun _ _ _ h => h) (Or.inl ⟨by rfl, ?yc65⟩) hS ?_
        case yc65 =>
          intro w hSw
          go_simp; all_goals (with_reducible rfl)
        simp only [Act.put, List.setIfInBounds_toArray, List.set_cons_zero, List.set_cons_succ]
        refine wpAnyH_take (i := 22) (oi := { dst := some 2, op := Op.assign (Operand.tmp 24), type := 4, pos := "rcdec.go:76", after := #[{ on := 21, ground := Ground.data }, { on := 15, ground := Ground.chain }, { on := 0, ground := Ground.phase }, { on := 1, ground := Ground.phase }, { on := 2, ground := Ground.phase }, { on := 3, ground := Ground.phase }, { on := 4, ground := Ground.phase }, { on := 5, ground := Ground.phase }, { on := 6, ground := Ground.phase }, { on := 7, ground := Ground.phase }, { on := 8, ground := Ground.phase }, { on := 9, ground := Ground.phase }, { on := 10, ground := Ground.phase }, { on := 11, ground := Ground.phase }, { on := 12, ground := Ground.phase }, { on := 13, ground := Ground.phase }, { on := 14, ground := Ground.phase }, { on := 15, ground := Ground.phase }, { on := 16, ground := Ground.phase }, { on := 17, ground := Ground.phase }, { on := 18, ground := Ground.phase }, { on := 19, ground := Ground.phase }, { on := 20, ground := Ground.phase }, { on := 21, ground := Ground.phase }], guard := none }) (v := ?vc66) rfl (by kernel_rfl) (by kernel_rfl) (by kernel_rfl) (fun _ _ _ h => h) (Or.inl ⟨by rfl, ?yc66⟩) hS ?_
        case yc66 =>
          intro w hSw
          go_simp; all_goals (with_reducible rfl)
        simp only [Act.put, List.setIfInBounds_toArray, List.set_cons_zero, List.set_cons_succ]
        refine wpAnyH_done (by kernel_rfl) ?_ _
        go_wp2_with fail
        go_ret
        exact ⟨rfl, (Below.refl _ _).drew⟩
    · have hpi : ((pos : Int) == (L : Int)) = false := beq_eq_false_iff_ne.2 (by omega)
      rw [show (pos == L && c == 0) = false by simp [hp]]
      clear hp
      go_enter Try.func25, Try.ntmps25
      go_wp2_with fail
      refine wp_region_held_drew (S := fun w' => w'.cell? ⟨g, 0, none⟩ = some (.int .u32 (c : Nat)) ∧ w'.cell? ⟨g, 2, none⟩ = some (.slice (some ⟨o, 0, none⟩) L cap) ∧ w'.cell? ⟨g, 3, none⟩ = some (.int .i64 (pos : Nat))) (by kernel_rfl) ⟨k0, k2, k3⟩ (fun hS => ?_)
      refine wpAnyH_take (i := 0) (oi := { dst := some 3, op := Op.move (Operand.tmp 0), type := 55, pos := "rcdec.go:76", after := #[], guard := none }) (v := ?vd67) rfl (by kernel_rfl) (by kernel_rfl) (by kernel_rfl) (fun _ _ _ h => h) (Or.inl ⟨by rfl, ?yd67⟩) hS ?_
      case yd67 =>
        intro w hSw
        go_simp; all_goals (with_reducible rfl)
      simp only [Act.put, List.setIfInBounds_toArray, List.set_cons_zero, List.set_cons_succ]
      refine wpAnyH_ready (rs := [1]) (by kernel_rfl) (by simp) ?_
      refine (AllReadyH.cons (o := { dst := some 4, op := Op.call { callee := Callee.value (Operand.func 42), args := #[Operand.tmp 3], argTypes := #[55] }, type := 4, pos := "rcdec.go:76", after := #[{ on := 0, ground := Ground.data }], guard := none }) rfl (fun K hK => ?_) AllReadyH.nil)
      go_simp
      refine (hO.out _ (hT.below (drew_below _))).mono ?_
      rintro e w2 ⟨rfl, rfl⟩
      go_wp2_with fail
      refine hK.out _ _ hS (fun _ => ?_)
      clear hK K
      refine wpAnyH_take (i := 2) (oi := { dst := some 5, op := Op.unOp UnOp.not 4 (Operand.tmp 4), type := 4, pos := "rcdec.go:76", after := #[{ on := 1, ground := Ground.data }], guard := none }) (v := ?vd68) rfl (by kernel_rfl) (by kernel_rfl) (by kernel_rfl) (fun _ _ _ h => h) (Or.inl ⟨by rfl, ?yd68⟩) hS ?_
      case yd68 =>
        intro w hSw
        go_simp; all_goals (with_reducible rfl)
      simp only [Act.put, List.setIfInBounds_toArray, List.set_cons_zero, List.set_cons_succ]
      refine wpAnyH_take (i := 3) (oi := { dst := some 6, op := Op.move (Operand.tmp 5), type := 4, pos := "rcdec.go:76", after := #[{ on := 2, ground := Ground.data }, { on := 1, ground := Ground.chain }], guard := none }) (v := ?vd69) rfl (by kernel_rfl) (by kernel_rfl) (by kernel_rfl) (fun _ _ _ h => h) (Or.inl ⟨by rfl, ?yd69⟩) hS ?_
      case yd69 =>
        intro w hSw
        go_simp; all_goals (with_reducible rfl)
      simp only [Act.put, List.setIfInBounds_toArray, List.set_cons_zero, List.set_cons_succ]
      refine wpAnyH_take (i := 4) (oi := { dst := some 7, op := Op.move (Operand.tmp 0), type := 55, pos := "rcdec.go:76", after := #[{ on := 3, ground := Ground.guard }], guard := some (3, true) }) (v := ?vd70) rfl (by kernel_rfl) (by kernel_rfl) (by kernel_rfl) (fun _ _ _ h => h) (Or.inl ⟨by rfl, ?yd70⟩) hS ?_
      case yd70 =>
        intro w hSw
        go_simp; all_goals (with_reducible rfl)
      simp only [Act.put, List.setIfInBounds_toArray, List.set_cons_zero, List.set_cons_succ]
      refine wpAnyH_take (i := 5) (oi := { dst := some 8, op := Op.nilCheck (Operand.tmp 7), type := 0, pos := "rcdec.go:76", after := #[{ on := 4, ground := Ground.data }, { on := 3, ground := Ground.guard }], guard := some (3, true) }) (v := ?vd71) rfl (by kernel_rfl) (by kernel_rfl) (by kernel_rfl) (fun _ _ _ h => h) (Or.inl ⟨by rfl, ?yd71⟩) hS ?_
      case yd71 =>
        intro w hSw
        go_simp; all_goals (with_reducible rfl)
      simp only [Act.put, List.setIfInBounds_toArray, List.set_cons_zero, List.set_cons_succ]
      refine wpAnyH_take (i := 6) (oi := { dst := some 9, op := Op.fieldAddr 91 (Operand.tmp 8) 3, type := 0, pos := "rcdec.go:76", after := #[{ on := 5, ground := Ground.data }, { on := 3, ground := Ground.guard }], guard := some (3, true) }) (v := ?vd72) rfl (by kernel_rfl) (by kernel_rfl) (by kernel_rfl) (fun _ _ _ h => h) (Or.inl ⟨by rfl, ?yd72⟩) hS ?_
      case yd72 =>
        intro w hSw
        go_simp; all_goals (with_reducible rfl)
      simp only [Act.put, List.setIfInBounds_toArray, List.set_cons_zero, List.set_cons_succ]
      refine wpAnyH_take (i := 7) (oi := { dst := some 10, op := Op.load 3 (Operand.tmp 9), type := 3, pos := "rcdec.go:76", after := #[{ on := 6, ground := Ground.data }, { on := 3, ground := Ground.guard }], guard := some (3, true) }) (v := ?vd73) rfl (by kernel_rfl) (by kernel_rfl) (by kernel_rfl) (fun _ _ _ h => h) (Or.inl ⟨by rfl, ?yd73⟩) hS ?_
      case yd73 =>
        intro w hSw
        obtain ⟨j0, j2, j3⟩ := hSw
        go_simp; all_goals (with_reducible rfl)
      simp only [Act.put, List.setIfInBounds_toArray, List.set_cons_zero, List.set_cons_succ]
      refine wpAnyH_take (i := 8) (oi := { dst := some 11, op := Op.move (Operand.tmp 0), type := 55, pos := "rcdec.go:76", after := #[{ on := 3, ground := Ground.guard }], guard := some (3, true) }) (v := ?vd74) rfl (by kernel_rfl) (by kernel_rfl) (by kernel_rfl) (fun _ _ _ h => h) (Or.inl ⟨by rfl, ?yd74⟩) hS ?_
      case yd74 =>
        intro w hSw
        go_simp; all_goals (with_reducible rfl)
      simp only [Act.put, List.setIfInBounds_toArray, List.set_cons_zero, List.set_cons_succ]
      refine wpAnyH_take (i := 9) (oi := { dst := some 12, op := Op.nilCheck (Operand.tmp 11), type := 0, pos := "rcdec.go:76", after := #[{ on := 8, ground := Ground.data }, { on := 3, ground := Ground.guard }], guard := some (3, true) }) (v := ?vd75) rfl (by kernel_rfl) (by kernel_rfl) (by kernel_rfl) (fun _ _ _ h => h) (Or.inl ⟨by rfl, ?yd75⟩) hS ?_
      case yd75 =>
        intro w hSw
        go_simp; all_goals (with_reducible rfl)
      simp only [Act.put, List.setIfInBounds_toArray, List.set_cons_zero, List.set_cons_succ]
      refine wpAnyH_take (i := 10) (oi := { dst := some 13, op := Op.fieldAddr 91 (Operand.tmp 12) 2, type := 0, pos := "rcdec.go:76", after := #[{ on := 9, ground := Ground.data }, { on := 3, ground := Ground.guard }], guard := some (3, true) }) (v := ?vd76) rfl (by kernel_rfl) (by kernel_rfl) (by kernel_rfl) (fun _ _ _ h => h) (Or.inl ⟨by rfl, ?yd76⟩) hS ?_
      case yd76 =>
        intro w hSw
        go_simp; all_goals (with_reducible rfl)
      simp only [Act.put, List.setIfInBounds_toArray, List.set_cons_zero, List.set_cons_succ]
      refine wpAnyH_take (i := 11) (oi := { dst := some 14, op := Op.load 22 (Operand.tmp 13), type := 22, pos := "rcdec.go:76", after := #[{ on := 10, ground := Ground.data }, { on := 3, ground := Ground.guard }], guard := some (3, true) }) (v := ?vd77) rfl (by kernel_rfl) (by kernel_rfl) (by kernel_rfl) (fun _ _ _ h => h) (Or.inl ⟨by rfl, ?yd77⟩) hS ?_
      case yd77 =>
        intro w hSw
        obtain ⟨j0, j2, j3⟩ := hSw
        go_simp; all_goals (with_reducible rfl)
      simp only [Act.put, List.setIfInBounds_toArray, List.set_cons_zero, List.set_cons_succ]
      refine wpAnyH_take (i := 12) (oi := { dst := some 15, op := Op.call { callee := Callee.builtin Builtin.len, args := #[Operand.tmp 14], argTypes := #[22] }, type := 3, pos := "rcdec.go:76", after := #[{ on := 11, ground := Ground.data }, { on := 3, ground := Ground.guard }], guard := some (3, true) }) (v := ?vd78) rfl (by kernel_rfl) (by kernel_rfl) (by kernel_rfl) (fun _ _ _ h => h) (Or.inl ⟨by rfl, ?yd78⟩) hS ?_
      case yd78 =>
        intro w hSw
        go_simp; all_goals (with_reducible rfl)
      simp only [Act.put, List.setIfInBounds_toArray, List.set_cons_zero, List.set_cons_succ]
      refine wpAnyH_take (i := 13) (oi := { dst := some 16, op := Op.binOp BinOp.eql 3 (Operand.tmp 10) (Operand.tmp 15) 3, type := 4, pos := "rcdec.go:76", after := #[{ on := 7, ground := Ground.data }, { on := 12, ground := Ground.data }, { on := 3, ground := Ground.guard }], guard := some (3, true) }) (v := ?vd79) rfl (by kernel_rfl) (by kernel_rfl) (by kernel_rfl) (fun _ _ _ h => h) (Or.inl ⟨by rfl, ?yd79⟩) hS ?_
      case yd79 =>
        intro w hSw
        go_simp; all_goals (with_reducible rfl)
      simp only [Act.put, List.setIfInBounds_toArray, List.set_cons_zero, List.set_cons_succ]
      refine wpAnyH_take (i := 14) (oi := { dst := some 17, op := Op.pick (Operand.tmp 6) (Operand.tmp 16) (Operand.const (Value.bool false)), type := 4, pos := "rcdec.go:76", after := #[{ on := 3, ground := Ground.data }, { on := 13, ground := Ground.data }], guard := none }) (v := ?vd80) rfl (by kernel_rfl) (by kernel_rfl) (by kernel_rfl) (fun _ _ _ h => h) (Or.inl ⟨by rfl, ?yd80⟩) hS ?_
      case yd80 =>
        intro w hSw
        go_simp; all_goals (with_reducible rfl)
      simp only [Act.put, List.setIfInBounds_toArray, List.set_cons_zero, List.set_cons_succ]
      refine wpAnyH_take (i := 15) (oi := { dst := some 18, op := Op.move (Operand.tmp 17), type := 4, pos := "rcdec.go:76", after := #[{ on := 14, ground := Ground.data }, { on := 3, ground := Ground.chain }], guard := none }) (v := ?vd81) rfl (by kernel_rfl) (by kernel_rfl) (by kernel_rfl) (fun _ _ _ h => h) (Or.inl ⟨by rfl, ?yd81⟩) hS ?_
      case yd81 =>
        intro w hSw
        go_simp; all_goals (with_reducible rfl)
      simp only [Act.put, List.setIfInBounds_toArray, List.set_cons_zero, List.set_cons_succ]
      refine wpAnyH_take (i := 16) (oi := { dst := some 19, op := Op.move (Operand.tmp 0), type := 55, pos := "rcdec.go:76", after := #[{ on := 15, ground := Ground.guard }], guard := some (15, true) }) (v := undef) rfl (by kernel_rfl) (by kernel_rfl) (by kernel_rfl) (fun _ _ _ h => h) (Or.inr ⟨by rfl, rfl⟩) hS ?_
      simp only [Act.put, List.setIfInBounds_toArray, List.set_cons_zero, List.set_cons_succ]
      refine wpAnyH_take (i := 17) (oi := { dst := some 20, op := Op.nilCheck (Operand.tmp 19), type := 0, pos := "rcdec.go:76", after := #[{ on := 16, ground := Ground.data }, { on := 15, ground := Ground.guard }], guard := some (15, true) }) (v := undef) rfl (by kernel_rfl) (by kernel_rfl) (by kernel_rfl) (fun _ _ _ h => h) (Or.inr ⟨by rfl, rfl⟩) hS ?_
      simp only [Act.put, List.setIfInBounds_toArray, List.set_cons_zero, List.set_cons_succ]
      refine wpAnyH_take (i := 18) (oi := { dst := some 21, op := Op.fieldAddr 91 (Operand.tmp 20) 0, type := 0, pos := "rcdec.go:76", after := #[{ on := 17, ground := Ground.data }, { on := 15, ground := Ground.guard }], guard := some (15, true) }) (v := undef) rfl (by kernel_rfl) (by kernel_rfl) (by kernel_rfl) (fun _ _ _ h => h) (Or.inr ⟨by rfl, rfl⟩) hS ?_
      simp only [Act.put, List.setIfInBounds_toArray, List.set_cons_zero, List.set_cons_succ]
      refine wpAnyH_take (i := 19) (oi := { dst := some 22, op := Op.load 78 (Operand.tmp 21), type := 78, pos := "rcdec.go:76", after := #[{ on := 18, ground := Ground.data }, { on := 15, ground := Ground.guard }], guard := some (15, true) }) (v := undef) rfl (by kernel_rfl) (by kernel_rfl) (by kernel_rfl) (fun _ _ _ h => h) (Or.inr ⟨by rfl, rfl⟩) hS ?_
      simp only [Act.put, List.setIfInBounds_toArray, List.set_cons_zero, List.set_cons_succ]
      refine wpAnyH_take (i := 20) (oi := { dst := some 23, op := Op.binOp BinOp.eql 78 (Operand.tmp 22) (Operand.const (Value.int IntKind.u32 0)) 78, type := 4, pos := "rcdec.go:76", after := #[{ on := 19, ground := Ground.data }, { on := 15, ground := Ground.guard }], guard := some (15, true) }) (v := undef) rfl (by kernel_rfl) (by kernel_rfl) (by kernel_rfl) (fun _ _ _ h => h) (Or.inr ⟨by rfl, rfl⟩) hS ?_
      simp only [Act.put, List.setIfInBounds_toArray, List.set_cons_zero, List.set_cons_succ]
      refine wpAnyH_take (i := 21) (oi := { dst := some 24, op := Op.pick (Operand.tmp 18) (Operand.tmp 23) (Operand.const (Value.bool false)), type := 4, pos := "rcdec.go:76", after := #[{ on := 15, ground := Ground.data }, { on := 20, ground := Ground.data }], guard := none }) (v := ?vd87) rfl (by kernel_rfl) (by kernel_rfl) (by kernel_rfl) (fun _ _ _ h => h) (Or.inl ⟨by rfl, ?yd87⟩) hS ?_
      case yd87 =>
        intro w hSw
        go_simp; all_goals (with_reducible rfl)
      simp only [Act.put, List.setIfInBounds_toArray, List.set_cons_zero, List.set_cons_succ]
      refine wpAnyH_take (i := 22) (oi := { dst := some 2, op := Op.assign (Operand.tmp 24), type := 4, pos := "rcdec.go:76", after := #[{ on := 21, ground := Ground.data }, { on := 15, ground := Ground.chain }, { on := 0, ground := Ground.phase }, { on := 1, ground := Ground.phase }, { on := 2, ground := Ground.phase }, { on := 3, ground := Ground.phase }, { on := 4, ground := Ground.phase }, { on := 5, ground := Ground.phase }, { on := 6, ground := Ground.phase }, { on := 7, ground := Ground.phase }, { on := 8, ground := Ground.phase }, { on := 9, ground := Ground.phase }, { on := 10, ground := Ground.phase }, { on := 11, ground := Ground.phase }, { on := 12, ground := Ground.phase }, { on := 13, ground := Ground.phase }, { on := 14, ground := Ground.phase }, { on := 15, ground := Ground.phase }, { on := 16, ground := Ground.phase }, { on := 17, ground := Ground.phase }, { on := 18, ground := Ground.phase }, { on := 19, ground := Ground.phase }, { on := 20, ground := Ground.phase }, { on := 21, ground := Ground.phase }], guard := none }) (v := ?vd88) rfl (by kernel_rfl) (by kernel_rfl) (by kernel_rfl) (fun _ _ _ h => h) (Or.inl ⟨by rfl, ?yd88⟩) hS ?_
      case yd88 =>
        intro w hSw
        go_simp; all_goals (with_reducible rfl)
      simp only [Act.put, List.setIfInBounds_toArray, List.set_cons_zero, List.set_cons_succ]
      refine wpAnyH_done (by kernel_rfl) ?_ _
      go_wp2_with fail
      go_ret
      exact ⟨rfl, (Below.refl _ _).drew⟩

end Go.Proofs.Ytiodlhieaajcgaa

/- The walk over the decoder's Plain. -/
namespace Go.Proofs.Ytiodlhieaajcgaa
open Go.RowKit

def DPlain (w : World) (g o cap : Nat) (l : List UInt8) (v : Nat) (s : Rd.St) (e : Ending) (w' : World) : Prop := e = .returned (.int .u32 (v : Nat)) ∧ Moved w g o cap l s w'

theorem Rd.St.plain_of_out {l : List UInt8} {s : Rd.St} {n m : Nat} (hnm : n ≤ m) (h : (s.rounds l n).2.out = true) : s.plain l m = (0, (s.rounds l n).2) := by
  unfold Rd.St.plain; rw [Rd.St.rounds_out hnm h, if_pos h]
theorem Rd.St.plain_of_in {l : List UInt8} {s : Rd.St} {n : Nat} (h : (s.rounds l n).2.out = false) : s.plain l n = s.rounds l n := by
  unfold Rd.St.plain; rw [if_neg (by simp [h])]

set_option maxRecDepth 100000 in
set_option maxHeartbeats 1000000 in
theorem dplain_any (g o cap : Nat) (l : List UInt8) (s : Rd.St) (u : BitVec 32) (n : Int) (w : World) (hE : DecIs w g o cap l s) (hs : s.ok l) (hl : l.length ≤ 140737488355328) :
    Calls Try.prog 92 #[.pointer (some ⟨g, 0, none⟩), .int .u32 u.toNat, .int .i64 n] w (DPlain w g o cap l (s.plain l (many n)).1 (s.plain l (many n)).2) := by
  go_enter Try.func92, Try.ntmps92
  go_upto_region 2 with (fail)
  go_cut [10, 11] (fun s10 s11 wx => w = wx ∧ s10 = .int .i64 ((many n : Nat) : Int) ∧ s11 = .int .i64 0)
  case first =>
    go_wp2_with fail
    all_goals
      go_meet
      refine ⟨rfl, congrArg (Value.int .i64) ?_, rfl⟩
      unfold many
      omega
  case rest =>
    obtain ⟨rfl, rfl, rfl⟩ := hcut
    have hm : many n ≤ 32 := by unfold many; omega
    generalize many n = m at *
    go_wp2_with fail
    go_loopw [7, 11] (fun vv i wr => ∃ t : Nat, t ≤ m ∧ vv = .int .u32 ((s.rounds l t).1 : Nat) ∧ i = .int .i64 (t : Nat) ∧ DecIs wr g o cap l (s.rounds l t).2 ∧ Only [g] w wr) (fun _ i _ => m - (intOf i).toNat)
    case atStart => exact ⟨0, by omega, rfl, rfl, hE, Only.refl _ _⟩
    case round =>
      obtain ⟨t, ht, rfl, rfl, hD, hon⟩ := hrel
      obtain ⟨hqok, hvlt⟩ := Rd.St.rounds_ok hs t
      clear hE
      have hO := Lib.hid (out_any g o cap l _ wr hD)
      by_cases hout : (s.rounds l t).2.out = true
      · have hpl := Rd.St.plain_of_out ht hout
        have HPL := Lib.hid hpl
        rw [hout] at hO
        have HOUT := Lib.hid hout
        generalize (s.rounds l t).2 = q at *
        generalize (s.rounds l t).1 = v at *
        clear hpl hout
        by_cases hlt : t < m
        · have hlt' : (t : Int) < m := by omega
          go_wp2_with fail
          refine hO.out.mono ?_
          rintro e w' ⟨rfl, rfl⟩
          go_wp2_with fail
          go_ret
          exact ⟨by rw [HPL.out]; rfl, by rw [HPL.out]; exact hD, hon⟩
        · have hlt' : ¬ (t : Int) < m := by omega
          go_wp2_with fail
          refine hO.out.mono ?_
          rintro e w' ⟨rfl, rfl⟩
          go_wp2_with fail
          go_ret
          exact ⟨by rw [HPL.out]; rfl, by rw [HPL.out]; exact hD, hon⟩
      · have hout' : (s.rounds l t).2.out = false := by simpa using hout
        rw [hout'] at hO
        have hnext : s.rounds l (t + 1) = (2 * (s.rounds l t).1 + (if (s.rounds l t).2.r / 2 ≤ (s.rounds l t).2.c then 1 else 0), Rd.scale l 1 (s.rounds l t).2.half) := by
          rw [Rd.St.rounds, if_neg hout]
        have HN := Lib.hid hnext
        have HPI := Lib.hid (fun h : t = m => (h ▸ Rd.St.plain_of_in hout' : s.plain l m = s.rounds l t))
        clear hnext hout
        generalize hQ : s.rounds l t = Q at *
        obtain ⟨v, q⟩ := Q
        simp only at HN hqok hvlt hD hout' HPI
        clear hQ
        have hout := hout'
        clear hout'
        by_cases hlt : t < m
        · have hlt' : (t : Int) < m := by omega
          clear HPI
          obtain ⟨x, y, hxy, hT0⟩ := hD
          obtain ⟨pos, c, r, out⟩ := q
          simp only at hout
          subst hout
          obtain rfl : c = x := (hxy rfl).1.symm
          obtain rfl : r = y := (hxy rfl).2.symm
          obtain ⟨hhf, hhr⟩ := Rd.St.half_fits hqok rfl
          have hr32 : r < 4294967296 := hqok.1.2.2
          have hc32 : c < 4294967296 := hqok.1.2.1
          have hT : DecAt wr g o cap l c r pos false := hT0
          have hhalf : Rd.St.half ⟨pos, c, r, false⟩ = if r / 2 ≤ c then ⟨pos, c - r / 2, r / 2, false⟩ else ⟨pos, c, r / 2, false⟩ := rfl
          simp only at HN
          have hr2 : (r : Int) / 2 = ((r / 2 : Nat) : Int) := by omega
          have hrl : r / 2 < 4294967296 := by omega
          have k0 := c50 hT.blk
          have k1 := c51 hT.blk
          have f1 := frozen_of_row wr g 1 _ _ hT.blk
          generalize hrh : r / 2 = rh at *
          have hT1 : DecAt (wr.setCell ⟨g, 1, none⟩ (.int .u32 (rh : Nat))) g o cap l c rh pos false := ⟨s51 hT.blk _, bytes_set hT.own hT.ne _, hT.ne, by simpa using hT.lt⟩
          have hon1 : Only [g] w (wr.setCell ⟨g, 1, none⟩ (.int .u32 (rh : Nat))) := hon.setCell (.inl (by simp)) _
          generalize hw1 : wr.setCell ⟨g, 1, none⟩ (.int .u32 (rh : Nat)) = w1 at *
          have HW1 := Lib.hid hw1
          have HHF := Lib.hid hhalf
          clear hw1 hxy hT0 hrh hqok hhalf
          have q0 : w1.drew.cell? ⟨g, 0, none⟩ = some (.int .u32 (c : Nat)) := c50 hT1.blk
          have q1 : w1.drew.cell? ⟨g, 1, none⟩ = some (.int .u32 (rh : Nat)) := c51 hT1.blk
          have hv2 : 2 * v < 4294967296 := by
            have : 2 ^ (t + 1) ≤ 2 ^ 32 := Nat.pow_le_pow_right (by omega) (by omega)
            rw [Nat.pow_succ] at this; omega
          have hvi : (v : Int) * 2 < 4294967296 := by omega
          by_cases hcr : rh ≤ c
          · have hhe : Rd.St.half ⟨pos, c, r, false⟩ = ⟨pos, c - rh, rh, false⟩ := by rw [HHF.out, if_pos hcr]
            have hci : (rh : Int) ≤ (c : Int) := by omega
            rw [if_pos hcr, hhe] at HN
            rw [hhe] at hhf hhr
            have hsub : IntKind.u32.wrap ((c : Int) - (rh : Int)) = ((c - rh : Nat) : Int) := by rw [IntKind.wrap_u32]; omega
            have hor : bits .or .u32 ((v : Int) * 2) 1 = ((2 * v + 1 : Nat) : Int) := by
              rw [show (v : Int) * 2 = ((v * 2 : Nat) : Int) by omega, show (1 : Int) = ((1 : Nat) : Int) from rfl, u32_or_nat _ _ (by omega) (by omega)]
              congr 1
              have e1 : v * 2 = v <<< 1 := by rw [Nat.shiftLeft_eq]
              rw [e1, ← Nat.shiftLeft_add_eq_or_of_lt (by omega), Nat.shiftLeft_eq]; omega
            have hcb : c - rh < 4294967296 := by omega
            generalize c - rh = cb at *
            generalize hV2 : 2 * v + 1 = v2 at *
            have HV2 := Lib.hid hV2
            clear hhe hV2
            go_wp2_with fail
            refine hO.out.mono ?_
            rintro e w' ⟨rfl, rfl⟩
            go_upto_region 8 with (fail)
            rw [HW1.out]
            clear k0 k1 f1 HW1 hO
            refine wp_region_held_drew (S := fun w' => w'.cell? ⟨g, 0, none⟩ = some (.int .u32 (c : Nat)) ∧ w'.cell? ⟨g, 1, none⟩ = some (.int .u32 (rh : Nat))) (by kernel_rfl) ⟨q0, q1⟩ (fun hS => ?_)
            refine wpAnyH_take (i := 0) (oi := { dst := some 24, op := Op.move (Operand.tmp 0), type := 55, pos := "rcdec.go:57", after := #[], guard := none }) (v := ?va1) rfl (by kernel_rfl) (by kernel_rfl) (by kernel_rfl) (fun _ _ _ h => h) (Or.inl ⟨by rfl, ?ya1⟩) hS ?_
            case ya1 =>
              intro w hSw
              go_simp; all_goals (with_reducible rfl)
            simp only [Act.put, List.setIfInBounds_toArray, List.set_cons_zero, List.set_cons_succ]
            refine wpAnyH_take (i := 1) (oi := { dst := some 25, op := Op.nilCheck (Operand.tmp 24), type := 0, pos := "rcdec.go:57", after := #[{ on := 0, ground := Ground.data }], guard := none }) (v := ?va2) rfl (by kernel_rfl) (by kernel_rfl) (by kernel_rfl) (fun _ _ _ h => h) (Or.inl ⟨by rfl, ?ya2⟩) hS ?_
            case ya2 =>
              intro w hSw
              go_simp; all_goals (with_reducible rfl)
            simp only [Act.put, List.setIfInBounds_toArray, List.set_cons_zero, List.set_cons_succ]
            refine wpAnyH_take (i := 2) (oi := { dst := some 26, op := Op.fieldAddr 91 (Operand.tmp 25) 0, type := 0, pos := "rcdec.go:57", after := #[{ on := 1, ground := Ground.data }], guard := none }) (v := ?va3) rfl (by kernel_rfl) (by kernel_rfl) (by kernel_rfl) (fun _ _ _ h => h) (Or.inl ⟨by rfl, ?ya3⟩) hS ?_
            case ya3 =>
              intro w hSw
              go_simp; all_goals (with_reducible rfl)
            simp only [Act.put, List.setIfInBounds_toArray, List.set_cons_zero, List.set_cons_succ]
            refine wpAnyH_take (i := 3) (oi := { dst := some 27, op := Op.load 78 (Operand.tmp 26), type := 78, pos := "rcdec.go:57", after := #[{ on := 2, ground := Ground.data }], guard := none }) (v := ?va4) rfl (by kernel_rfl) (by kernel_rfl) (by kernel_rfl) (fun _ _ _ h => h) (Or.inl ⟨by rfl, ?ya4⟩) hS ?_
            case ya4 =>
              intro w hSw
              obtain ⟨j0, j1⟩ := hSw
              go_simp; all_goals (with_reducible rfl)
            simp only [Act.put, List.setIfInBounds_toArray, List.set_cons_zero, List.set_cons_succ]
            refine wpAnyH_take (i := 4) (oi := { dst := some 28, op := Op.move (Operand.tmp 0), type := 55, pos := "rcdec.go:57", after := #[], guard := none }) (v := ?va5) rfl (by kernel_rfl) (by kernel_rfl) (by kernel_rfl) (fun _ _ _ h => h) (Or.inl ⟨by rfl, ?ya5⟩) hS ?_
            case ya5 =>
              intro w hSw
              go_simp; all_goals (with_reducible rfl)
            simp only [Act.put, List.setIfInBounds_toArray, List.set_cons_zero, List.set_cons_succ]
            refine wpAnyH_take (i := 5) (oi := { dst := some 29, op := Op.nilCheck (Operand.tmp 28), type := 0, pos := "rcdec.go:57", after := #[{ on := 4, ground := Ground.data }], guard := none }) (v := ?va6) rfl (by kernel_rfl) (by kernel_rfl) (by kernel_rfl) (fun _ _ _ h => h) (Or.inl ⟨by rfl, ?ya6⟩) hS ?_
            case ya6 =>
              intro w hSw
              go_simp; all_goals (with_reducible rfl)
            simp only [Act.put, List.setIfInBounds_toArray, List.set_cons_zero, List.set_cons_succ]
            refine wpAnyH_take (i := 6) (oi := { dst := some 30, op := Op.fieldAddr 91 (Operand.tmp 29) 1, type := 0, pos := "rcdec.go:57", after := #[{ on := 5, ground := Ground.data }], guard := none }) (v := ?va7) rfl (by kernel_rfl) (by kernel_rfl) (by kernel_rfl) (fun _ _ _ h => h) (Or.inl ⟨by rfl, ?ya7⟩) hS ?_
            case ya7 =>
              intro w hSw
              go_simp; all_goals (with_reducible rfl)
            simp only [Act.put, List.setIfInBounds_toArray, List.set_cons_zero, List.set_cons_succ]
            refine wpAnyH_take (i := 7) (oi := { dst := some 31, op := Op.load 78 (Operand.tmp 30), type := 78, pos := "rcdec.go:57", after := #[{ on := 6, ground := Ground.data }], guard := none }) (v := ?va8) rfl (by kernel_rfl) (by kernel_rfl) (by kernel_rfl) (fun _ _ _ h => h) (Or.inl ⟨by rfl, ?ya8⟩) hS ?_
            case ya8 =>
              intro w hSw
              obtain ⟨j0, j1⟩ := hSw
              go_simp; all_goals (with_reducible rfl)
            simp only [Act.put, List.setIfInBounds_toArray, List.set_cons_zero, List.set_cons_succ]
            refine wpAnyH_take (i := 8) (oi := { dst := some 32, op := Op.binOp BinOp.geq 78 (Operand.tmp 27) (Operand.tmp 31) 78, type := 4, pos := "rcdec.go:57", after := #[{ on := 3, ground := Ground.data }, { on := 7, ground := Ground.data }], guard := none }) (v := ?va9) rfl (by kernel_rfl) (by kernel_rfl) (by kernel_rfl) (fun _ _ _ h => h) (Or.inl ⟨by rfl, ?ya9⟩) hS ?_
            case ya9 =>
              intro w hSw
              go_simp; all_goals (with_reducible rfl)
            simp only [Act.put, List.setIfInBounds_toArray, List.set_cons_zero, List.set_cons_succ]
            refine wpAnyH_done (by kernel_rfl) ?_ _
            have hT2 := hT1.below (drew_below w1)
            have hon2 := hon1.drew
            clear q0 q1 hT1 hon1
            generalize w1.drew = wd at *
            go_upto_region 9 with (fail)
            have k0 : wd.drew.cell? ⟨g, 0, none⟩ = some (.int .u32 (c : Nat)) := c50 hT2.blk
            have q1 : wd.drew.cell? ⟨g, 1, none⟩ = some (.int .u32 (rh : Nat)) := c51 hT2.blk
            have f0 : wd.drew.frozen? ⟨g, 0, none⟩ = false := frozen_of_row wd.drew g 0 _ _ hT2.blk
            have hT3a : DecAt (wd.setCell ⟨g, 0, none⟩ (.int .u32 (cb : Nat))) g o cap l cb rh pos false := ⟨s50 hT2.blk _, bytes_set hT2.own hT2.ne _, hT2.ne, by simpa using hT2.lt⟩
            have hT3 := hT3a.below (drew_below _)
            have hon3 : Only [g] w (wd.setCell ⟨g, 0, none⟩ (.int .u32 (cb : Nat))).drew := (hon2.setCell (.inl (by simp)) _).drew
            have hq : (wd.setCell ⟨g, 0, none⟩ (.int .u32 (cb : Nat))).drew.cell? ⟨g, 1, none⟩ = some (.int .u32 (rh : Nat)) := c51 hT3.blk
            clear hT3a
            have hsh := Lib.hid (dshift_any 1 g o cap l ⟨pos, cb, rh, false⟩ _ ⟨_, _, (fun _ => ⟨rfl, rfl⟩), hT3⟩ hhf hl (fun _ => by show 16777216 ≤ rh * 256 ^ 1; have : 8388608 ≤ rh := hhr; omega))
            refine wp_region_held_drew (S := fun w' => w'.cell? ⟨g, 1, none⟩ = some (.int .u32 (rh : Nat))) (by kernel_rfl) q1 (fun hS => ?_)
            refine wpAnyH_take (i := 0) (oi := { dst := some 33, op := Op.move (Operand.tmp 0), type := 55, pos := "rcdec.go:58", after := #[], guard := none }) (v := ?vb10) rfl (by kernel_rfl) (by kernel_rfl) (by kernel_rfl) (fun _ _ _ h => h) (Or.inl ⟨by rfl, ?yb10⟩) hS ?_
            case yb10 =>
              intro w hSw
              go_simp; all_goals (with_reducible rfl)
            simp only [Act.put, List.setIfInBounds_toArray, List.set_cons_zero, List.set_cons_succ]
            refine wpAnyH_take (i := 1) (oi := { dst := some 34, op := Op.nilCheck (Operand.tmp 33), type := 0, pos := "rcdec.go:58", after := #[{ on := 0, ground := Ground.data }], guard := none }) (v := ?vb11) rfl (by kernel_rfl) (by kernel_rfl) (by kernel_rfl) (fun _ _ _ h => h) (Or.inl ⟨by rfl, ?yb11⟩) hS ?_
            case yb11 =>
              intro w hSw
              go_simp; all_goals (with_reducible rfl)
            simp only [Act.put, List.setIfInBounds_toArray, List.set_cons_zero, List.set_cons_succ]
            refine wpAnyH_take (i := 2) (oi := { dst := some 35, op := Op.fieldAddr 91 (Operand.tmp 34) 0, type := 0, pos := "rcdec.go:58", after := #[{ on := 1, ground := Ground.data }], guard := none }) (v := ?vb12) rfl (by kernel_rfl) (by kernel_rfl) (by kernel_rfl) (fun _ _ _ h => h) (Or.inl ⟨by rfl, ?yb12⟩) hS ?_
            case yb12 =>
              intro w hSw
              go_simp; all_goals (with_reducible rfl)
            simp only [Act.put, List.setIfInBounds_toArray, List.set_cons_zero, List.set_cons_succ]
            refine wpAnyH_take (i := 4) (oi := { dst := some 37, op := Op.move (Operand.tmp 0), type := 55, pos := "rcdec.go:58", after := #[], guard := none }) (v := ?vb13) rfl (by kernel_rfl) (by kernel_rfl) (by kernel_rfl) (fun _ _ _ h => h) (Or.inl ⟨by rfl, ?yb13⟩) hS ?_
            case yb13 =>
              intro w hSw
              go_simp; all_goals (with_reducible rfl)
            simp only [Act.put, List.setIfInBounds_toArray, List.set_cons_zero, List.set_cons_succ]
            refine wpAnyH_take (i := 5) (oi := { dst := some 38, op := Op.nilCheck (Operand.tmp 37), type := 0, pos := "rcdec.go:58", after := #[{ on := 4, ground := Ground.data }], guard := none }) (v := ?vb14) rfl (by kernel_rfl) (by kernel_rfl) (by kernel_rfl) (fun _ _ _ h => h) (Or.inl ⟨by rfl, ?yb14⟩) hS ?_
            case yb14 =>
              intro w hSw
              go_simp; all_goals (with_reducible rfl)
            simp only [Act.put, List.setIfInBounds_toArray, List.set_cons_zero, List.set_cons_succ]
            refine wpAnyH_take (i := 6) (oi := { dst := some 39, op := Op.fieldAddr 91 (Operand.tmp 38) 1, type := 0, pos := "rcdec.go:58", after := #[{ on := 5, ground := Ground.data }], guard := none }) (v := ?vb15) rfl (by kernel_rfl) (by kernel_rfl) (by kernel_rfl) (fun _ _ _ h => h) (Or.inl ⟨by rfl, ?yb15⟩) hS ?_
            case yb15 =>
              intro w hSw
              go_simp; all_goals (with_reducible rfl)
            simp only [Act.put, List.setIfInBounds_toArray, List.set_cons_zero, List.set_cons_succ]
            refine wpAnyH_take (i := 7) (oi := { dst := some 40, op := Op.load 78 (Operand.tmp 39), type := 78, pos := "rcdec.go:58", after := #[{ on := 6, ground := Ground.data }], guard := none }) (v := ?vb16) rfl (by kernel_rfl) (by kernel_rfl) (by kernel_rfl) (fun _ _ _ h => h) (Or.inl ⟨by rfl, ?yb16⟩) hS ?_
            case yb16 =>
              intro w hSw
              have j1 := hSw
              go_simp; all_goals (with_reducible rfl)
            simp only [Act.put, List.setIfInBounds_toArray, List.set_cons_zero, List.set_cons_succ]
            refine wpAnyH_ready (rs := [3]) (by kernel_rfl) (by simp) ?_
            refine (AllReadyH.cons (o := { dst := some 36, op := Op.load 78 (Operand.tmp 35), type := 78, pos := "rcdec.go:58", after := #[{ on := 2, ground := Ground.data }], guard := none }) rfl (fun K hK => ?_) AllReadyH.nil)
            go_simp
            refine hK.out _ _ hS (fun _ => ?_)
            clear hK K
            refine wpAnyH_take (i := 8) (oi := { dst := some 41, op := Op.binOp BinOp.sub 78 (Operand.tmp 36) (Operand.tmp 40) 78, type := 78, pos := "rcdec.go:58", after := #[{ on := 3, ground := Ground.data }, { on := 7, ground := Ground.data }], guard := none }) (v := ?vb17) rfl (by kernel_rfl) (by kernel_rfl) (by kernel_rfl) (fun _ _ _ h => h) (Or.inl ⟨by rfl, ?yb17⟩) hS ?_
            case yb17 =>
              intro w hSw
              go_simp; all_goals (with_reducible rfl)
            simp only [Act.put, List.setIfInBounds_toArray, List.set_cons_zero, List.set_cons_succ]
            refine wpAnyH_take (i := 9) (oi := { dst := some 42, op := Op.nilCheck (Operand.tmp 33), type := 0, pos := "rcdec.go:58", after := #[{ on := 0, ground := Ground.data }, { on := 0, ground := Ground.phase }, { on := 1, ground := Ground.phase }, { on := 2, ground := Ground.phase }, { on := 3, ground := Ground.phase }, { on := 4, ground := Ground.phase }, { on := 5, ground := Ground.phase }, { on := 6, ground := Ground.phase }, { on := 7, ground := Ground.phase }, { on := 8, ground := Ground.phase }], guard := none }) (v := ?vb18) rfl (by kernel_rfl) (by kernel_rfl) (by kernel_rfl) (fun _ _ _ h => h) (Or.inl ⟨by rfl, ?yb18⟩) hS ?_
            case yb18 =>
              intro w hSw
              go_simp; all_goals (with_reducible rfl)
            simp only [Act.put, List.setIfInBounds_toArray, List.set_cons_zero, List.set_cons_succ]
            refine wpAnyH_take (i := 10) (oi := { dst := some 43, op := Op.fieldAddr 91 (Operand.tmp 42) 0, type := 0, pos := "rcdec.go:58", after := #[{ on := 9, ground := Ground.data }, { on := 0, ground := Ground.phase }, { on := 1, ground := Ground.phase }, { on := 2, ground := Ground.phase }, { on := 3, ground := Ground.phase }, { on := 4, ground := Ground.phase }, { on := 5, ground := Ground.phase }, { on := 6, ground := Ground.phase }, { on := 7, ground := Ground.phase }, { on := 8, ground := Ground.phase }], guard := none }) (v := ?vb19) rfl (by kernel_rfl) (by kernel_rfl) (by kernel_rfl) (fun _ _ _ h => h) (Or.inl ⟨by rfl, ?yb19⟩) hS ?_
            case yb19 =>
              intro w hSw
              go_simp; all_goals (with_reducible rfl)
            simp only [Act.put, List.setIfInBounds_toArray, List.set_cons_zero, List.set_cons_succ]
            refine wpAnyH_ready (rs := [11]) (by kernel_rfl) (by simp) ?_
            refine (AllReadyH.cons (o := { dst := none, op := Op.store 78 (Operand.tmp 43) (Operand.tmp 41), type := 0, pos := "rcdec.go:58", after := #[{ on := 10, ground := Ground.data }, { on := 8, ground := Ground.data }, { on := 0, ground := Ground.phase }, { on := 1, ground := Ground.phase }, { on := 2, ground := Ground.phase }, { on := 3, ground := Ground.phase }, { on := 4, ground := Ground.phase }, { on := 5, ground := Ground.phase }, { on := 6, ground := Ground.phase }, { on := 7, ground := Ground.phase }, { on := 8, ground := Ground.phase }], guard := none }) rfl (fun K hK => ?_) AllReadyH.nil)
            go_simp
            refine hK.out _ _ hq (fun _ => ?_)
            clear hK K
            refine wpAnyH_done (by kernel_rfl) ?_ _
            generalize (wd.setCell ⟨g, 0, none⟩ (.int .u32 (cb : Nat))).drew = w3 at *
            clear k0 q1 f0 hq hT2 hon2
            go_wp2_with fail
            refine hsh.out.mono ?_
            rintro e w4 ⟨rfl, hE4, hon4⟩
            go_wp2_with fail
            go_roundw
            case rel => exact ⟨t + 1, by omega, by rw [HN.out], congrArg (Value.int .i64) (by omega), by rw [HN.out]; exact hE4, hon3.trans hon4 (by simp)⟩
            case measure => simp [intOf] <;> omega
          · have hhe : Rd.St.half ⟨pos, c, r, false⟩ = ⟨pos, c, rh, false⟩ := by rw [HHF.out, if_neg hcr]
            have hci : ¬ (rh : Int) ≤ (c : Int) := by omega
            rw [if_neg hcr, hhe] at HN
            rw [hhe] at hhf hhr
            clear hhe
            go_wp2_with fail
            refine hO.out.mono ?_
            rintro e w' ⟨rfl, rfl⟩
            go_upto_region 8 with (fail)
            rw [HW1.out]
            clear k0 k1 f1 HW1 hO
            refine wp_region_held_drew (S := fun w' => w'.cell? ⟨g, 0, none⟩ = some (.int .u32 (c : Nat)) ∧ w'.cell? ⟨g, 1, none⟩ = some (.int .u32 (rh : Nat))) (by kernel_rfl) ⟨q0, q1⟩ (fun hS => ?_)
            refine wpAnyH_take (i := 0) (oi := { dst := some 24, op := Op.move (Operand.tmp 0), type := 55, pos := "rcdec.go:57", after := #[], guard := none }) (v := ?vc20) rfl (by kernel_rfl) (by kernel_rfl) (by kernel_rfl) (fun _ _ _ h => h) (Or.inl ⟨by rfl, ?yc20⟩) hS ?_
            case yc20 =>
              intro w hSw
              go_simp; all_goals (with_reducible rfl)
            simp only [Act.put, List.setIfInBounds_toArray, List.set_cons_zero, List.set_cons_succ]
            refine wpAnyH_take (i := 1) (oi := { dst := some 25, op := Op.nilCheck (Operand.tmp 24), type := 0, pos := "rcdec.go:57", after := #[{ on := 0, ground := Ground.data }], guard := none }) (v := ?vc21) rfl (by kernel_rfl) (by kernel_rfl) (by kernel_rfl) (fun _ _ _ h => h) (Or.inl ⟨by rfl, ?yc21⟩) hS ?_
            case yc21 =>
              intro w hSw
              go_simp; all_goals (with_reducible rfl)
            simp only [Act.put, List.setIfInBounds_toArray, List.set_cons_zero, List.set_cons_succ]
            refine wpAnyH_take (i := 2) (oi := { dst := some 26, op := Op.fieldAddr 91 (Operand.tmp 25) 0, type := 0, pos := "rcdec.go:57", after := #[{ on := 1, ground := Ground.data }], guard := none }) (v := ?vc22) rfl (by kernel_rfl) (by kernel_rfl) (by kernel_rfl) (fun _ _ _ h => h) (Or.inl ⟨by rfl, ?yc22⟩) hS ?_
            case yc22 =>
              intro w hSw
              go_simp; all_goals (with_reducible rfl)
            simp only [Act.put, List.setIfInBounds_toArray, List.set_cons_zero, List.set_cons_succ]
            refine wpAnyH_take (i := 3) (oi := { dst := some 27, op := Op.load 78 (Operand.tmp 26), type := 78, pos := "rcdec.go:57", after := #[{ on := 2, ground := Ground.data }], guard := none }) (v := ?vc23) rfl (by kernel_rfl) (by kernel_rfl) (by kernel_rfl) (fun _ _ _ h => h) (Or.inl ⟨by rfl, ?yc23⟩) hS ?_
            case yc23 =>
              intro w hSw
              obtain ⟨j0, j1⟩ := hSw
              go_simp; all_goals (with_reducible rfl)
            simp only [Act.put, List.setIfInBounds_toArray, List.set_cons_zero, List.set_cons_succ]
            refine wpAnyH_take (i := 4) (oi := { dst := some 28, op := Op.move (Operand.tmp 0), type := 55, pos := "rcdec.go:57", after := #[], guard := none }) (v := ?vc24) rfl (by kernel_rfl) (by kernel_rfl) (by kernel_rfl) (fun _ _ _ h => h) (Or.inl ⟨by rfl, ?yc24⟩) hS ?_
            case yc24 =>
              intro w hSw
              go_simp; all_goals (with_reducible rfl)
            simp only [Act.put, List.setIfInBounds_toArray, List.set_cons_zero, List.set_cons_succ]
            refine wpAnyH_take (i := 5) (oi := { dst := some 29, op := Op.nilCheck (Operand.tmp 28), type := 0, pos := "rcdec.go:57", after := #[{ on := 4, ground := Ground.data }], guard := none }) (v := ?vc25) rfl (by kernel_rfl) (by kernel_rfl) (by kernel_rfl) (fun _ _ _ h => h) (Or.inl ⟨by rfl, ?yc25⟩) hS ?_
            case yc25 =>
              intro w hSw
              go_simp; all_goals (with_reducible rfl)
            simp only [Act.put, List.setIfInBounds_toArray, List.set_cons_zero, List.set_cons_succ]
            refine wpAnyH_take (i := 6) (oi := { dst := some 30, op := Op.fieldAddr 91 (Operand.tmp 29) 1, type := 0, pos := "rcdec.go:57", after := #[{ on := 5, ground := Ground.data }], guard := none }) (v := ?vc26) rfl (by kernel_rfl) (by kernel_rfl) (by kernel_rfl) (fun _ _ _ h => h) (Or.inl ⟨by rfl, ?yc26⟩) hS ?_
            case yc26 =>
              intro w hSw
              go_simp; all_goals (with_reducible rfl)
            simp only [Act.put, List.setIfInBounds_toArray, List.set_cons_zero, List.set_cons_succ]
            refine wpAnyH_take (i := 7) (oi := { dst := some 31, op := Op.load 78 (Operand.tmp 30), type := 78, pos := "rcdec.go:57", after := #[{ on := 6, ground := Ground.data }], guard := none }) (v := ?vc27) rfl (by kernel_rfl) (by kernel_rfl) (by kernel_rfl) (fun _ _ _ h => h) (Or.inl ⟨by rfl, ?yc27⟩) hS ?_
            case yc27 =>
              intro w hSw
              obtain ⟨j0, j1⟩ := hSw
              go_simp; all_goals (with_reducible rfl)
            simp only [Act.put, List.setIfInBounds_toArray, List.set_cons_zero, List.set_cons_succ]
            refine wpAnyH_take (i := 8) (oi := { dst := some 32, op := Op.binOp BinOp.geq 78 (Operand.tmp 27) (Operand.tmp 31) 78, type := 4, pos := "rcdec.go:57", after := #[{ on := 3, ground := Ground.data }, { on := 7, ground := Ground.data }], guard := none }) (v := ?vc28) rfl (by kernel_rfl) (by kernel_rfl) (by kernel_rfl) (fun _ _ _ h => h) (Or.inl ⟨by rfl, ?yc28⟩) hS ?_
            case yc28 =>
              intro w hSw
              go_simp; all_goals (with_reducible rfl)
            simp only [Act.put, List.setIfInBounds_toArray, List.set_cons_zero, List.set_cons_succ]
            refine wpAnyH_done (by kernel_rfl) ?_ _
            have hT2 := hT1.below (drew_below w1)
            have hon2 := hon1.drew
            clear q0 q1 hT1 hon1
            generalize w1.drew = wd at *
            have hsh := Lib.hid (dshift_any 1 g o cap l ⟨pos, c, rh, false⟩ _ ⟨_, _, (fun _ => ⟨rfl, rfl⟩), hT2⟩ hhf hl (fun _ => by show 16777216 ≤ rh * 256 ^ 1; have : 8388608 ≤ rh := hhr; omega))
            go_wp2_with fail
            refine hsh.out.mono ?_
            rintro e w4 ⟨rfl, hE4, hon4⟩
            go_wp2_with fail
            go_roundw
            case rel => exact ⟨t + 1, by omega, by rw [HN.out]; exact congrArg (Value.int .u32) (by omega), congrArg (Value.int .i64) (by omega), by rw [HN.out]; exact hE4, hon2.trans hon4 (by simp)⟩
            case measure => simp [intOf] <;> omega
        · have hlt' : ¬ (t : Int) < m := by omega
          have HPL := Lib.hid (HPI.out (by omega))
          clear HPI HN
          go_wp2_with fail
          refine hO.out.mono ?_
          rintro e w' ⟨rfl, rfl⟩
          go_wp2_with fail
          go_ret
          exact ⟨by rw [HPL.out]; rfl, by rw [HPL.out]; exact hD, hon⟩
end Go.Proofs.Ytiodlhieaajcgaa
