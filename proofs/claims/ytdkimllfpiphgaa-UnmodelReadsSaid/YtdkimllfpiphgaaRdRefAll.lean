/- Several texts in one: RdRef, RcFair, RdRef2, RdRNew. -/
import Derived.Test.YtdkimllfpiphgaaRdNewAll
import Derived.Test.YtdkimllfpiphgaaRcBit
/- The walk over the reference's scale. -/
namespace Go.Proofs.Ytdkimllfpiphgaa
open Go.RowKit

/-- The reference's decoder in memory: its struct in block h; its bytes lie where they came in. -/
structure RDecAt (w : World) (h b off cc : Nat) (l : List UInt8) (x y pos : Nat) (out : Bool) : Prop where
  blk : w.heap[h]? = some (.cells #[.slice (some ⟨b, off, none⟩) l.length cc, .int .i64 (pos : Nat), .int .u64 (x : Nat), .int .u64 (y : Nat), .bool out] 90 (0, 0))
  own : Bytes w (some ⟨b, off, none⟩) l
  ne : h ≠ b
  lt : b < w.heap.size
theorem bytes_set' {w : World} {o off : Nat} {l : List UInt8} {p : Addr} (h : Bytes w (some ⟨o, off, none⟩) l) (hne : p.block ≠ o) (u : Value) : Bytes (w.setCell p u) (some ⟨o, off, none⟩) l :=
  h.keep (by simp) fun q hq _ => by
    have hq' : q.block = o := by simpa using hq.symm
    exact World.cell?_setCell_far w p q u (by rw [hq']; exact hne)
theorem bytes_at {w : World} {o off : Nat} {l : List UInt8} (h : Bytes w (some ⟨o, off, none⟩) l) {pos : Nat} (hp : pos < l.length) : w.cell? ⟨o, off + pos, none⟩ = some (B8 l[pos]) := by
  obtain ⟨b, off', e, _, hc⟩ := h.addr (by omega)
  injection e with e; injection e with e1 e2; subst e1; subst e2
  exact hc pos hp
theorem RDecAt.keep {w w' : World} {h b off cc : Nat} {l : List UInt8} {x y pos : Nat} {out : Bool} (k : RDecAt w h b off cc l x y pos out) (hs : w.heap.size ≤ w'.heap.size) (hg : w'.heap[h]? = w.heap[h]?) (ho : w'.heap[b]? = w.heap[b]?) : RDecAt w' h b off cc l x y pos out :=
  ⟨hg.trans k.blk, k.own.keep hs fun q hq _ => by
    have hq' : q.block = b := by simpa using hq.symm
    unfold World.cell?; rw [hq', ho], k.ne, Nat.lt_of_lt_of_le k.lt hs⟩
theorem RDecAt.hlt {w : World} {h b off cc : Nat} {l : List UInt8} {x y pos : Nat} {out : Bool} (k : RDecAt w h b off cc l x y pos out) : h < w.heap.size := block_lt_of_cell (c50 k.blk)
theorem RDecAt.below {w w' : World} {h b off cc : Nat} {l : List UInt8} {x y pos : Nat} {out : Bool} (k : RDecAt w h b off cc l x y pos out) (hb : Below w.heap.size w w') : RDecAt w' h b off cc l x y pos out :=
  k.keep hb.size (hb.block h k.hlt) (hb.block b k.lt)
def RDecIs (w : World) (h b off cc : Nat) (l : List UInt8) (s : Rd.St) : Prop := ∃ x y : Nat, (s.out = false → x = s.c ∧ y = s.r) ∧ RDecAt w h b off cc l x y s.pos s.out
def RMoved (w : World) (h b off cc : Nat) (l : List UInt8) (s : Rd.St) (w' : World) : Prop := RDecIs w' h b off cc l s ∧ Only [h] w w'
theorem RDecIs.below {w w' : World} {h b off cc : Nat} {l : List UInt8} {s : Rd.St} (k : RDecIs w h b off cc l s) (hb : Below w.heap.size w w') : RDecIs w' h b off cc l s := by
  obtain ⟨x, y, h1, h2⟩ := k; exact ⟨x, y, h1, h2.below hb⟩

theorem code_ref (c b : Nat) (hc : c < 4294967296) (hb : b < 256) : (IntKind.u64.wrap (IntKind.u64.wrap (256 * (c : Int)) + IntKind.u64.wrap (b : Int))).tmod 4294967296 = (((256 * c + b) % 4294967296 : Nat) : Int) := by
  have e1 : IntKind.u64.wrap (256 * (c : Int)) = ((256 * c : Nat) : Int) := by rw [IntKind.wrap_u64]; omega
  have e2 : IntKind.u64.wrap (b : Int) = (b : Int) := by rw [IntKind.wrap_u64]; omega
  have e3 : IntKind.u64.wrap (((256 * c : Nat) : Int) + (b : Int)) = ((256 * c + b : Nat) : Int) := by rw [IntKind.wrap_u64]; omega
  rw [e1, e2, e3, Int.tmod_eq_emod_of_nonneg (by omega)]; omega

set_option maxRecDepth 100000 in
set_option maxHeartbeats 1000000 in
theorem rdscale_any (N h b off cc : Nat) (l : List UInt8) (s : Rd.St) (w : World) (hE : RDecAt w h b off cc l s.c s.r s.pos false) (hso : s.out = false) (hf : s.fits l) (hl : l.length ≤ 140737488355328) (hr : 16777216 ≤ s.r * 256 ^ N) :
    Calls Try.prog 68 #[.pointer (some ⟨h, 0, none⟩)] w (Did (RMoved w h b off cc l (Rd.scale l N s))) := by
  go_enter Try.func68, Try.ntmps68
  go_wp2_with fail
  go_loopg [6] N (fun gk s6 wr => ∃ (pos c r : Nat), RDecAt wr h b off cc l c r pos false ∧ Rd.St.fits l ⟨pos, c, r, false⟩ ∧ Hid (16777216 ≤ r * 256 ^ gk) ∧ Hid (Rd.scale l N s = Rd.scale l gk ⟨pos, c, r, false⟩) ∧ Only [h] w wr)
  case atStart =>
    obtain ⟨pos, c, r, out⟩ := s
    simp only at hso
    subst hso
    exact ⟨pos, c, r, hE, hf, hr, rfl, Only.refl _ _⟩
  case round =>
    obtain ⟨pos, c, r, hT, hft, hrt, hsc, hon⟩ := hrel
    clear hE hf hr hso
    have k3 := c53 hT.blk
    have f3 := frozen_of_row wr h 3 _ _ hT.blk
    by_cases hy : r < 16777216
    · have hy' : (r : Int) < 16777216 := by omega
      cases gk with
      | zero => have := hrt.out; simp at this; omega
      | succ gk =>
        have hstep := Rd.scale_step (l := l) (N := gk) (s := ⟨pos, c, r, false⟩) rfl hy
        have HST := Lib.hid (hsc.out.trans hstep)
        have hT1 : RDecAt (wr.setCell ⟨h, 3, none⟩ (.int .u64 ((r * 256 : Nat) : Int))) h b off cc l c (r * 256) pos false := ⟨s53 hT.blk _, bytes_set' hT.own hT.ne _, hT.ne, by simpa using hT.lt⟩
        have hon1 : Only [h] w (wr.setCell ⟨h, 3, none⟩ (.int .u64 ((r * 256 : Nat) : Int))) := hon.setCell (.inl (by simp)) _
        have hmul : ((r * 256 : Nat) : Int) = (r : Int) * 256 := by omega
        rw [hmul] at hon1
        have hT2 : RDecAt (wr.setCell ⟨h, 3, none⟩ (.int .u64 ((r : Int) * 256))) h b off cc l c (r * 256) pos false := by rw [← hmul]; exact hT1
        clear hT1
        generalize hw1 : wr.setCell ⟨h, 3, none⟩ (.int .u64 ((r : Int) * 256)) = w1 at *
        have HW1 := Lib.hid hw1
        have hnx : 16777216 ≤ r * 256 * 256 ^ gk := by
          have := hrt.out
          rw [Nat.pow_succ, Nat.mul_comm (256 ^ gk), ← Nat.mul_assoc] at this; exact this
        have HNX := Lib.hid hnx
        have q0 : w1.drew.cell? ⟨h, 0, none⟩ = some (.slice (some ⟨b, off, none⟩) l.length cc) := c50 hT2.blk
        have q1 : w1.drew.cell? ⟨h, 1, none⟩ = some (.int .i64 (pos : Nat)) := c51 hT2.blk
        clear hstep hw1 hmul hrt hsc hnx
        by_cases hp : pos < l.length
        · have hpn : ¬ ((l.length : Int) ≤ (pos : Int)) := by omega
          have hbl : (l[pos]).toNat < 256 := (l[pos]).toNat_lt
          have hcv := code_ref c (l[pos]).toNat hft.2.1 hbl
          have hfn := Rd.next_fits hft hy
          have hnx := Rd.next_in (l := l) (s := ⟨pos, c, r, false⟩) hp
          rw [hnx] at hfn HST
          simp only at hfn HST
          have hcell := bytes_at hT2.own hp
          generalize hC : (256 * c + (l[pos]).toNat) % 4294967296 = C at *
          generalize l[pos] = bb at *
          have HCV := Lib.hid hcv
          generalize hL : l.length = L at *
          have HL := Lib.hid hL
          have hpz : pos < L := hp
          clear hnx hC hcv hL
          go_upto_region 2 with (fail)
          rw [HW1.out]
          clear k3 f3 HW1 hT hon
          refine wp_region_held_drew (S := fun w' => w'.cell? ⟨h, 0, none⟩ = some (.slice (some ⟨b, off, none⟩) L cc) ∧ w'.cell? ⟨h, 1, none⟩ = some (.int .i64 (pos : Nat))) (by kernel_rfl) ⟨q0, q1⟩ (fun hS => ?_)
          refine wpAnyH_take (i := 0) (oi := { dst := some 15, op := Op.move (Operand.tmp 0), type := 32, pos := "ref.go:34", after := #[], guard := none }) (v := ?va1) rfl (by kernel_rfl) (by kernel_rfl) (by kernel_rfl) (fun _ _ _ h => h) (Or.inl ⟨by rfl, ?ya1⟩) hS ?_
          case ya1 =>
            intro w hSw
            go_simp; all_goals (with_reducible rfl)
          simp only [Act.put, List.setIfInBounds_toArray, List.set_cons_zero, List.set_cons_succ]
          refine wpAnyH_take (i := 1) (oi := { dst := some 16, op := Op.nilCheck (Operand.tmp 15), type := 0, pos := "ref.go:34", after := #[{ on := 0, ground := Ground.data }], guard := none }) (v := ?va2) rfl (by kernel_rfl) (by kernel_rfl) (by kernel_rfl) (fun _ _ _ h => h) (Or.inl ⟨by rfl, ?ya2⟩) hS ?_
          case ya2 =>
            intro w hSw
            go_simp; all_goals (with_reducible rfl)
          simp only [Act.put, List.setIfInBounds_toArray, List.set_cons_zero, List.set_cons_succ]
          refine wpAnyH_take (i := 2) (oi := { dst := some 17, op := Op.fieldAddr 90 (Operand.tmp 16) 1, type := 0, pos := "ref.go:34", after := #[{ on := 1, ground := Ground.data }], guard := none }) (v := ?va3) rfl (by kernel_rfl) (by kernel_rfl) (by kernel_rfl) (fun _ _ _ h => h) (Or.inl ⟨by rfl, ?ya3⟩) hS ?_
          case ya3 =>
            intro w hSw
            go_simp; all_goals (with_reducible rfl)
          simp only [Act.put, List.setIfInBounds_toArray, List.set_cons_zero, List.set_cons_succ]
          refine wpAnyH_take (i := 3) (oi := { dst := some 18, op := Op.load 3 (Operand.tmp 17), type := 3, pos := "ref.go:34", after := #[{ on := 2, ground := Ground.data }], guard := none }) (v := ?va4) rfl (by kernel_rfl) (by kernel_rfl) (by kernel_rfl) (fun _ _ _ h => h) (Or.inl ⟨by rfl, ?ya4⟩) hS ?_
          case ya4 =>
            intro w hSw
            obtain ⟨j0, j1⟩ := hSw
            go_simp; all_goals (with_reducible rfl)
          simp only [Act.put, List.setIfInBounds_toArray, List.set_cons_zero, List.set_cons_succ]
          refine wpAnyH_take (i := 4) (oi := { dst := some 19, op := Op.move (Operand.tmp 0), type := 32, pos := "ref.go:34", after := #[], guard := none }) (v := ?va5) rfl (by kernel_rfl) (by kernel_rfl) (by kernel_rfl) (fun _ _ _ h => h) (Or.inl ⟨by rfl, ?ya5⟩) hS ?_
          case ya5 =>
            intro w hSw
            go_simp; all_goals (with_reducible rfl)
          simp only [Act.put, List.setIfInBounds_toArray, List.set_cons_zero, List.set_cons_succ]
          refine wpAnyH_take (i := 5) (oi := { dst := some 20, op := Op.nilCheck (Operand.tmp 19), type := 0, pos := "ref.go:34", after := #[{ on := 4, ground := Ground.data }], guard := none }) (v := ?va6) rfl (by kernel_rfl) (by kernel_rfl) (by kernel_rfl) (fun _ _ _ h => h) (Or.inl ⟨by rfl, ?ya6⟩) hS ?_
          case ya6 =>
            intro w hSw
            go_simp; all_goals (with_reducible rfl)
          simp only [Act.put, List.setIfInBounds_toArray, List.set_cons_zero, List.set_cons_succ]
          refine wpAnyH_take (i := 6) (oi := { dst := some 21, op := Op.fieldAddr 90 (Operand.tmp 20) 0, type := 0, pos := "ref.go:34", after := #[{ on := 5, ground := Ground.data }], guard := none }) (v := ?va7) rfl (by kernel_rfl) (by kernel_rfl) (by kernel_rfl) (fun _ _ _ h => h) (Or.inl ⟨by rfl, ?ya7⟩) hS ?_
          case ya7 =>
            intro w hSw
            go_simp; all_goals (with_reducible rfl)
          simp only [Act.put, List.setIfInBounds_toArray, List.set_cons_zero, List.set_cons_succ]
          refine wpAnyH_take (i := 7) (oi := { dst := some 22, op := Op.load 22 (Operand.tmp 21), type := 22, pos := "ref.go:34", after := #[{ on := 6, ground := Ground.data }], guard := none }) (v := ?va8) rfl (by kernel_rfl) (by kernel_rfl) (by kernel_rfl) (fun _ _ _ h => h) (Or.inl ⟨by rfl, ?ya8⟩) hS ?_
          case ya8 =>
            intro w hSw
            obtain ⟨j0, j1⟩ := hSw
            go_simp; all_goals (with_reducible rfl)
          simp only [Act.put, List.setIfInBounds_toArray, List.set_cons_zero, List.set_cons_succ]
          refine wpAnyH_take (i := 8) (oi := { dst := some 23, op := Op.call { callee := Callee.builtin Builtin.len, args := #[Operand.tmp 22], argTypes := #[22] }, type := 3, pos := "ref.go:34", after := #[{ on := 7, ground := Ground.data }], guard := none }) (v := ?va9) rfl (by kernel_rfl) (by kernel_rfl) (by kernel_rfl) (fun _ _ _ h => h) (Or.inl ⟨by rfl, ?ya9⟩) hS ?_
          case ya9 =>
            intro w hSw
            go_simp; all_goals (with_reducible rfl)
          simp only [Act.put, List.setIfInBounds_toArray, List.set_cons_zero, List.set_cons_succ]
          refine wpAnyH_take (i := 9) (oi := { dst := some 24, op := Op.binOp BinOp.geq 3 (Operand.tmp 18) (Operand.tmp 23) 3, type := 4, pos := "ref.go:34", after := #[{ on := 3, ground := Ground.data }, { on := 8, ground := Ground.data }], guard := none }) (v := ?va10) rfl (by kernel_rfl) (by kernel_rfl) (by kernel_rfl) (fun _ _ _ h => h) (Or.inl ⟨by rfl, ?ya10⟩) hS ?_
          case ya10 =>
            intro w hSw
            go_simp; all_goals (with_reducible rfl)
          simp only [Act.put, List.setIfInBounds_toArray, List.set_cons_zero, List.set_cons_succ]
          refine wpAnyH_done (by kernel_rfl) ?_ _
          have hT3 := hT2.below (drew_below w1)
          have hon2 := hon1.drew
          have hcell2 : w1.drew.cell? ⟨b, off + pos, none⟩ = some (B8 bb) := hcell
          clear hT2 hon1 hcell
          generalize w1.drew = wd at *
          go_upto_region 4 with (fail)
          have hT4a : RDecAt (wd.setCell ⟨h, 2, none⟩ (.int .u64 (C : Nat))) h b off cc l C (r * 256) pos false := ⟨s52 hT3.blk _, bytes_set' hT3.own hT3.ne _, hT3.ne, by simpa using hT3.lt⟩
          have hT4 := hT4a.below (drew_below _)
          have hon4 : Only [h] w (wd.setCell ⟨h, 2, none⟩ (.int .u64 (C : Nat))).drew := (hon2.setCell (.inl (by simp)) _).drew
          have hq2 : (wd.setCell ⟨h, 2, none⟩ (.int .u64 (C : Nat))).drew.cell? ⟨b, off + pos, none⟩ = some (B8 bb) := (World.cell?_setCell_far wd _ _ _ hT3.ne).trans hcell2
          have hq0 : (wd.setCell ⟨h, 2, none⟩ (.int .u64 (C : Nat))).drew.cell? ⟨h, 0, none⟩ = some (.slice (some ⟨b, off, none⟩) L cc) := by rw [← HL.out]; exact c50 hT4.blk
          have hq := And.intro hq0 (And.intro (c51 hT4.blk) hq2)
          have k2 : wd.drew.cell? ⟨h, 2, none⟩ = some (.int .u64 (c : Nat)) := c52 hT3.blk
          have f2 : wd.drew.frozen? ⟨h, 2, none⟩ = false := frozen_of_row wd.drew h 2 _ _ hT3.blk
          have q2 : wd.drew.cell? ⟨b, off + pos, none⟩ = some (B8 bb) := hcell2
          clear hT4a hq0 hq2 hcell2
          refine wp_region_held_drew (S := fun w' => w'.cell? ⟨h, 0, none⟩ = some (.slice (some ⟨b, off, none⟩) L cc) ∧ w'.cell? ⟨h, 1, none⟩ = some (.int .i64 (pos : Nat)) ∧ w'.cell? ⟨b, off + pos, none⟩ = some (B8 bb)) (by kernel_rfl) ⟨q0, q1, q2⟩ (fun hS => ?_)
          refine wpAnyH_take (i := 0) (oi := { dst := some 28, op := Op.move (Operand.tmp 0), type := 32, pos := "ref.go:38", after := #[], guard := none }) (v := ?vb11) rfl (by kernel_rfl) (by kernel_rfl) (by kernel_rfl) (fun _ _ _ h => h) (Or.inl ⟨by rfl, ?yb11⟩) hS ?_
          case yb11 =>
            intro w hSw
            go_simp; all_goals (with_reducible rfl)
          simp only [Act.put, List.setIfInBounds_toArray, List.set_cons_zero, List.set_cons_succ]
          refine wpAnyH_take (i := 1) (oi := { dst := some 29, op := Op.move (Operand.tmp 0), type := 32, pos := "ref.go:38", after := #[], guard := none }) (v := ?vb12) rfl (by kernel_rfl) (by kernel_rfl) (by kernel_rfl) (fun _ _ _ h => h) (Or.inl ⟨by rfl, ?yb12⟩) hS ?_
          case yb12 =>
            intro w hSw
            go_simp; all_goals (with_reducible rfl)
          simp only [Act.put, List.setIfInBounds_toArray, List.set_cons_zero, List.set_cons_succ]
          refine wpAnyH_take (i := 2) (oi := { dst := some 30, op := Op.nilCheck (Operand.tmp 29), type := 0, pos := "ref.go:38", after := #[{ on := 1, ground := Ground.data }], guard := none }) (v := ?vb13) rfl (by kernel_rfl) (by kernel_rfl) (by kernel_rfl) (fun _ _ _ h => h) (Or.inl ⟨by rfl, ?yb13⟩) hS ?_
          case yb13 =>
            intro w hSw
            go_simp; all_goals (with_reducible rfl)
          simp only [Act.put, List.setIfInBounds_toArray, List.set_cons_zero, List.set_cons_succ]
          refine wpAnyH_take (i := 3) (oi := { dst := some 31, op := Op.fieldAddr 90 (Operand.tmp 30) 2, type := 0, pos := "ref.go:38", after := #[{ on := 2, ground := Ground.data }], guard := none }) (v := ?vb14) rfl (by kernel_rfl) (by kernel_rfl) (by kernel_rfl) (fun _ _ _ h => h) (Or.inl ⟨by rfl, ?yb14⟩) hS ?_
          case yb14 =>
            intro w hSw
            go_simp; all_goals (with_reducible rfl)
          simp only [Act.put, List.setIfInBounds_toArray, List.set_cons_zero, List.set_cons_succ]
          refine wpAnyH_take (i := 6) (oi := { dst := some 34, op := Op.move (Operand.tmp 0), type := 32, pos := "ref.go:38", after := #[], guard := none }) (v := ?vb15) rfl (by kernel_rfl) (by kernel_rfl) (by kernel_rfl) (fun _ _ _ h => h) (Or.inl ⟨by rfl, ?yb15⟩) hS ?_
          case yb15 =>
            intro w hSw
            go_simp; all_goals (with_reducible rfl)
          simp only [Act.put, List.setIfInBounds_toArray, List.set_cons_zero, List.set_cons_succ]
          refine wpAnyH_take (i := 7) (oi := { dst := some 35, op := Op.nilCheck (Operand.tmp 34), type := 0, pos := "ref.go:38", after := #[{ on := 6, ground := Ground.data }], guard := none }) (v := ?vb16) rfl (by kernel_rfl) (by kernel_rfl) (by kernel_rfl) (fun _ _ _ h => h) (Or.inl ⟨by rfl, ?yb16⟩) hS ?_
          case yb16 =>
            intro w hSw
            go_simp; all_goals (with_reducible rfl)
          simp only [Act.put, List.setIfInBounds_toArray, List.set_cons_zero, List.set_cons_succ]
          refine wpAnyH_take (i := 8) (oi := { dst := some 36, op := Op.fieldAddr 90 (Operand.tmp 35) 0, type := 0, pos := "ref.go:38", after := #[{ on := 7, ground := Ground.data }], guard := none }) (v := ?vb17) rfl (by kernel_rfl) (by kernel_rfl) (by kernel_rfl) (fun _ _ _ h => h) (Or.inl ⟨by rfl, ?yb17⟩) hS ?_
          case yb17 =>
            intro w hSw
            go_simp; all_goals (with_reducible rfl)
          simp only [Act.put, List.setIfInBounds_toArray, List.set_cons_zero, List.set_cons_succ]
          refine wpAnyH_take (i := 9) (oi := { dst := some 37, op := Op.load 22 (Operand.tmp 36), type := 22, pos := "ref.go:38", after := #[{ on := 8, ground := Ground.data }], guard := none }) (v := ?vb18) rfl (by kernel_rfl) (by kernel_rfl) (by kernel_rfl) (fun _ _ _ h => h) (Or.inl ⟨by rfl, ?yb18⟩) hS ?_
          case yb18 =>
            intro w hSw
            obtain ⟨j0, j1, j2⟩ := hSw
            go_simp; all_goals (with_reducible rfl)
          simp only [Act.put, List.setIfInBounds_toArray, List.set_cons_zero, List.set_cons_succ]
          refine wpAnyH_take (i := 10) (oi := { dst := some 38, op := Op.move (Operand.tmp 0), type := 32, pos := "ref.go:38", after := #[], guard := none }) (v := ?vb19) rfl (by kernel_rfl) (by kernel_rfl) (by kernel_rfl) (fun _ _ _ h => h) (Or.inl ⟨by rfl, ?yb19⟩) hS ?_
          case yb19 =>
            intro w hSw
            go_simp; all_goals (with_reducible rfl)
          simp only [Act.put, List.setIfInBounds_toArray, List.set_cons_zero, List.set_cons_succ]
          refine wpAnyH_take (i := 11) (oi := { dst := some 39, op := Op.nilCheck (Operand.tmp 38), type := 0, pos := "ref.go:38", after := #[{ on := 10, ground := Ground.data }], guard := none }) (v := ?vb20) rfl (by kernel_rfl) (by kernel_rfl) (by kernel_rfl) (fun _ _ _ h => h) (Or.inl ⟨by rfl, ?yb20⟩) hS ?_
          case yb20 =>
            intro w hSw
            go_simp; all_goals (with_reducible rfl)
          simp only [Act.put, List.setIfInBounds_toArray, List.set_cons_zero, List.set_cons_succ]
          refine wpAnyH_take (i := 12) (oi := { dst := some 40, op := Op.fieldAddr 90 (Operand.tmp 39) 1, type := 0, pos := "ref.go:38", after := #[{ on := 11, ground := Ground.data }], guard := none }) (v := ?vb21) rfl (by kernel_rfl) (by kernel_rfl) (by kernel_rfl) (fun _ _ _ h => h) (Or.inl ⟨by rfl, ?yb21⟩) hS ?_
          case yb21 =>
            intro w hSw
            go_simp; all_goals (with_reducible rfl)
          simp only [Act.put, List.setIfInBounds_toArray, List.set_cons_zero, List.set_cons_succ]
          refine wpAnyH_take (i := 13) (oi := { dst := some 41, op := Op.load 3 (Operand.tmp 40), type := 3, pos := "ref.go:38", after := #[{ on := 12, ground := Ground.data }], guard := none }) (v := ?vb22) rfl (by kernel_rfl) (by kernel_rfl) (by kernel_rfl) (fun _ _ _ h => h) (Or.inl ⟨by rfl, ?yb22⟩) hS ?_
          case yb22 =>
            intro w hSw
            obtain ⟨j0, j1, j2⟩ := hSw
            go_simp; all_goals (with_reducible rfl)
          simp only [Act.put, List.setIfInBounds_toArray, List.set_cons_zero, List.set_cons_succ]
          refine wpAnyH_take (i := 14) (oi := { dst := some 42, op := Op.indexAddr 22 (Operand.tmp 37) (Operand.tmp 41), type := 0, pos := "ref.go:38", after := #[{ on := 9, ground := Ground.data }, { on := 13, ground := Ground.data }], guard := none }) (v := ?vb23) rfl (by kernel_rfl) (by kernel_rfl) (by kernel_rfl) (fun _ _ _ h => h) (Or.inl ⟨by rfl, ?yb23⟩) hS ?_
          case yb23 =>
            intro w hSw
            go_simp; all_goals (with_reducible rfl)
          simp only [Act.put, List.setIfInBounds_toArray, List.set_cons_zero, List.set_cons_succ]
          refine wpAnyH_take (i := 15) (oi := { dst := some 43, op := Op.load 5 (Operand.tmp 42), type := 5, pos := "ref.go:38", after := #[{ on := 14, ground := Ground.data }], guard := none }) (v := ?vb24) rfl (by kernel_rfl) (by kernel_rfl) (by kernel_rfl) (fun _ _ _ h => h) (Or.inl ⟨by rfl, ?yb24⟩) hS ?_
          case yb24 =>
            intro w hSw
            obtain ⟨j0, j1, j2⟩ := hSw
            go_simp; all_goals (with_reducible rfl)
          simp only [Act.put, List.setIfInBounds_toArray, List.set_cons_zero, List.set_cons_succ]
          refine wpAnyH_take (i := 16) (oi := { dst := some 44, op := Op.convert 5 88 (Operand.tmp 43), type := 88, pos := "ref.go:38", after := #[{ on := 15, ground := Ground.data }], guard := none }) (v := ?vb25) rfl (by kernel_rfl) (by kernel_rfl) (by kernel_rfl) (fun _ _ _ h => h) (Or.inl ⟨by rfl, ?yb25⟩) hS ?_
          case yb25 =>
            intro w hSw
            go_simp; all_goals (with_reducible rfl)
          simp only [Act.put, List.setIfInBounds_toArray, List.set_cons_zero, List.set_cons_succ]
          refine wpAnyH_ready (rs := [4]) (by kernel_rfl) (by simp) ?_
          refine (AllReadyH.cons (o := { dst := some 32, op := Op.load 88 (Operand.tmp 31), type := 88, pos := "ref.go:38", after := #[{ on := 3, ground := Ground.data }], guard := none }) rfl (fun K hK => ?_) AllReadyH.nil)
          go_simp
          refine hK.out _ _ hS (fun _ => ?_)
          clear hK K
          refine wpAnyH_take (i := 5) (oi := { dst := some 33, op := Op.binOp BinOp.mul 88 (Operand.const (Value.int IntKind.u64 256)) (Operand.tmp 32) 88, type := 88, pos := "ref.go:38", after := #[{ on := 4, ground := Ground.data }], guard := none }) (v := ?vb26) rfl (by kernel_rfl) (by kernel_rfl) (by kernel_rfl) (fun _ _ _ h => h) (Or.inl ⟨by rfl, ?yb26⟩) hS ?_
          case yb26 =>
            intro w hSw
            go_simp; all_goals (with_reducible rfl)
          simp only [Act.put, List.setIfInBounds_toArray, List.set_cons_zero, List.set_cons_succ]
          refine wpAnyH_take (i := 17) (oi := { dst := some 45, op := Op.binOp BinOp.add 88 (Operand.tmp 33) (Operand.tmp 44) 88, type := 88, pos := "ref.go:38", after := #[{ on := 5, ground := Ground.data }, { on := 16, ground := Ground.data }], guard := none }) (v := ?vb27) rfl (by kernel_rfl) (by kernel_rfl) (by kernel_rfl) (fun _ _ _ h => h) (Or.inl ⟨by rfl, ?yb27⟩) hS ?_
          case yb27 =>
            intro w hSw
            go_simp; all_goals (with_reducible rfl)
          simp only [Act.put, List.setIfInBounds_toArray, List.set_cons_zero, List.set_cons_succ]
          refine wpAnyH_take (i := 18) (oi := { dst := some 46, op := Op.binOp BinOp.rem 88 (Operand.tmp 45) (Operand.const (Value.int IntKind.u64 4294967296)) 88, type := 88, pos := "ref.go:38", after := #[{ on := 17, ground := Ground.data }], guard := none }) (v := .int .u64 (C : Nat)) rfl (by kernel_rfl) (by kernel_rfl) (by kernel_rfl) (fun _ _ _ h => h) (Or.inl ⟨by rfl, ?yb28⟩) hS ?_
          case yb28 =>
            intro w hSw
            go_simp; rw [HCV.out]
          simp only [Act.put, List.setIfInBounds_toArray, List.set_cons_zero, List.set_cons_succ]
          refine wpAnyH_take (i := 19) (oi := { dst := some 47, op := Op.nilCheck (Operand.tmp 28), type := 0, pos := "ref.go:38", after := #[{ on := 0, ground := Ground.data }, { on := 0, ground := Ground.phase }, { on := 1, ground := Ground.phase }, { on := 2, ground := Ground.phase }, { on := 3, ground := Ground.phase }, { on := 4, ground := Ground.phase }, { on := 5, ground := Ground.phase }, { on := 6, ground := Ground.phase }, { on := 7, ground := Ground.phase }, { on := 8, ground := Ground.phase }, { on := 9, ground := Ground.phase }, { on := 10, ground := Ground.phase }, { on := 11, ground := Ground.phase }, { on := 12, ground := Ground.phase }, { on := 13, ground := Ground.phase }, { on := 14, ground := Ground.phase }, { on := 15, ground := Ground.phase }, { on := 16, ground := Ground.phase }, { on := 17, ground := Ground.phase }, { on := 18, ground := Ground.phase }], guard := none }) (v := ?vb29) rfl (by kernel_rfl) (by kernel_rfl) (by kernel_rfl) (fun _ _ _ h => h) (Or.inl ⟨by rfl, ?yb29⟩) hS ?_
          case yb29 =>
            intro w hSw
            go_simp; all_goals (with_reducible rfl)
          simp only [Act.put, List.setIfInBounds_toArray, List.set_cons_zero, List.set_cons_succ]
          refine wpAnyH_take (i := 20) (oi := { dst := some 48, op := Op.fieldAddr 90 (Operand.tmp 47) 2, type := 0, pos := "ref.go:38", after := #[{ on := 19, ground := Ground.data }, { on := 0, ground := Ground.phase }, { on := 1, ground := Ground.phase }, { on := 2, ground := Ground.phase }, { on := 3, ground := Ground.phase }, { on := 4, ground := Ground.phase }, { on := 5, ground := Ground.phase }, { on := 6, ground := Ground.phase }, { on := 7, ground := Ground.phase }, { on := 8, ground := Ground.phase }, { on := 9, ground := Ground.phase }, { on := 10, ground := Ground.phase }, { on := 11, ground := Ground.phase }, { on := 12, ground := Ground.phase }, { on := 13, ground := Ground.phase }, { on := 14, ground := Ground.phase }, { on := 15, ground := Ground.phase }, { on := 16, ground := Ground.phase }, { on := 17, ground := Ground.phase }, { on := 18, ground := Ground.phase }], guard := none }) (v := ?vb30) rfl (by kernel_rfl) (by kernel_rfl) (by kernel_rfl) (fun _ _ _ h => h) (Or.inl ⟨by rfl, ?yb30⟩) hS ?_
          case yb30 =>
            intro w hSw
            go_simp; all_goals (with_reducible rfl)
          simp only [Act.put, List.setIfInBounds_toArray, List.set_cons_zero, List.set_cons_succ]
          refine wpAnyH_ready (rs := [21]) (by kernel_rfl) (by simp) ?_
          refine (AllReadyH.cons (o := { dst := none, op := Op.store 88 (Operand.tmp 48) (Operand.tmp 46), type := 0, pos := "ref.go:38", after := #[{ on := 20, ground := Ground.data }, { on := 18, ground := Ground.data }, { on := 0, ground := Ground.phase }, { on := 1, ground := Ground.phase }, { on := 2, ground := Ground.phase }, { on := 3, ground := Ground.phase }, { on := 4, ground := Ground.phase }, { on := 5, ground := Ground.phase }, { on := 6, ground := Ground.phase }, { on := 7, ground := Ground.phase }, { on := 8, ground := Ground.phase }, { on := 9, ground := Ground.phase }, { on := 10, ground := Ground.phase }, { on := 11, ground := Ground.phase }, { on := 12, ground := Ground.phase }, { on := 13, ground := Ground.phase }, { on := 14, ground := Ground.phase }, { on := 15, ground := Ground.phase }, { on := 16, ground := Ground.phase }, { on := 17, ground := Ground.phase }, { on := 18, ground := Ground.phase }], guard := none }) rfl (fun K hK => ?_) AllReadyH.nil)
          go_simp
          refine hK.out _ _ hq (fun _ => ?_)
          clear hK K
          refine wpAnyH_done (by kernel_rfl) ?_ _
          generalize (wd.setCell ⟨h, 2, none⟩ (.int .u64 (C : Nat))).drew = w5 at *
          clear k2 f2 q0 q1 q2 hq hT3 hon2 HCV
          have k1 := c51 hT4.blk
          have f1 := frozen_of_row w5 h 1 _ _ hT4.blk
          have hT5 : RDecAt (w5.setCell ⟨h, 1, none⟩ (.int .i64 ((pos + 1 : Nat) : Int))) h b off cc l C (r * 256) (pos + 1) false := ⟨s51 hT4.blk _, bytes_set' hT4.own hT4.ne _, hT4.ne, by simpa using hT4.lt⟩
          have hon5 : Only [h] w (w5.setCell ⟨h, 1, none⟩ (.int .i64 ((pos + 1 : Nat) : Int))) := hon4.setCell (.inl (by simp)) _
          have hsum : ((pos + 1 : Nat) : Int) = (pos : Int) + 1 := by omega
          rw [hsum] at hon5
          have hT6 : RDecAt (w5.setCell ⟨h, 1, none⟩ (.int .i64 ((pos : Int) + 1))) h b off cc l C (r * 256) (pos + 1) false := by rw [← hsum]; exact hT5
          clear hT5 hsum
          go_wp2_with fail
          go_roundg gk
          case measure => omega
          case rel => exact ⟨pos + 1, C, r * 256, hT6, hfn, HNX.out, HST.out, hon5⟩
        · have hpn : ((l.length : Int) ≤ (pos : Int)) := by omega
          have hnx := Rd.next_end (l := l) (s := ⟨pos, c, r, false⟩) hp
          rw [hnx, Rd.scale_out (s := ⟨pos, 0, 0, true⟩) rfl] at HST
          generalize hL : l.length = L at *
          have HL := Lib.hid hL
          clear hnx hL
          go_upto_region 2 with (fail)
          rw [HW1.out]
          clear k3 f3 HW1 hT hon
          refine wp_region_held_drew (S := fun w' => w'.cell? ⟨h, 0, none⟩ = some (.slice (some ⟨b, off, none⟩) L cc) ∧ w'.cell? ⟨h, 1, none⟩ = some (.int .i64 (pos : Nat))) (by kernel_rfl) ⟨q0, q1⟩ (fun hS => ?_)
          refine wpAnyH_take (i := 0) (oi := { dst := some 15, op := Op.move (Operand.tmp 0), type := 32, pos := "ref.go:34", after := #[], guard := none }) (v := ?vc31) rfl (by kernel_rfl) (by kernel_rfl) (by kernel_rfl) (fun _ _ _ h => h) (Or.inl ⟨by rfl, ?yc31⟩) hS ?_
          case yc31 =>
            intro w hSw
            go_simp; all_goals (with_reducible rfl)
          simp only [Act.put, List.setIfInBounds_toArray, List.set_cons_zero, List.set_cons_succ]
          refine wpAnyH_take (i := 1) (oi := { dst := some 16, op := Op.nilCheck (Operand.tmp 15), type := 0, pos := "ref.go:34", after := #[{ on := 0, ground := Ground.data }], guard := none }) (v := ?vc32) rfl (by kernel_rfl) (by kernel_rfl) (by kernel_rfl) (fun _ _ _ h => h) (Or.inl ⟨by rfl, ?yc32⟩) hS ?_
          case yc32 =>
            intro w hSw
            go_simp; all_goals (with_reducible rfl)
          simp only [Act.put, List.setIfInBounds_toArray, List.set_cons_zero, List.set_cons_succ]
          refine wpAnyH_take (i := 2) (oi := { dst := some 17, op := Op.fieldAddr 90 (Operand.tmp 16) 1, type := 0, pos := "ref.go:34", after := #[{ on := 1, ground := Ground.data }], guard := none }) (v := ?vc33) rfl (by kernel_rfl) (by kernel_rfl) (by kernel_rfl) (fun _ _ _ h => h) (Or.inl ⟨by rfl, ?yc33⟩) hS ?_
          case yc33 =>
            intro w hSw
            go_simp; all_goals (with_reducible rfl)
          simp only [Act.put, List.setIfInBounds_toArray, List.set_cons_zero, List.set_cons_succ]
          refine wpAnyH_take (i := 3) (oi := { dst := some 18, op := Op.load 3 (Operand.tmp 17), type := 3, pos := "ref.go:34", after := #[{ on := 2, ground := Ground.data }], guard := none }) (v := ?vc34) rfl (by kernel_rfl) (by kernel_rfl) (by kernel_rfl) (fun _ _ _ h => h) (Or.inl ⟨by rfl, ?yc34⟩) hS ?_
          case yc34 =>
            intro w hSw
            obtain ⟨j0, j1⟩ := hSw
            go_simp; all_goals (with_reducible rfl)
          simp only [Act.put, List.setIfInBounds_toArray, List.set_cons_zero, List.set_cons_succ]
          refine wpAnyH_take (i := 4) (oi := { dst := some 19, op := Op.move (Operand.tmp 0), type := 32, pos := "ref.go:34", after := #[], guard := none }) (v := ?vc35) rfl (by kernel_rfl) (by kernel_rfl) (by kernel_rfl) (fun _ _ _ h => h) (Or.inl ⟨by rfl, ?yc35⟩) hS ?_
          case yc35 =>
            intro w hSw
            go_simp; all_goals (with_reducible rfl)
          simp only [Act.put, List.setIfInBounds_toArray, List.set_cons_zero, List.set_cons_succ]
          refine wpAnyH_take (i := 5) (oi := { dst := some 20, op := Op.nilCheck (Operand.tmp 19), type := 0, pos := "ref.go:34", after := #[{ on := 4, ground := Ground.data }], guard := none }) (v := ?vc36) rfl (by kernel_rfl) (by kernel_rfl) (by kernel_rfl) (fun _ _ _ h => h) (Or.inl ⟨by rfl, ?yc36⟩) hS ?_
          case yc36 =>
            intro w hSw
            go_simp; all_goals (with_reducible rfl)
          simp only [Act.put, List.setIfInBounds_toArray, List.set_cons_zero, List.set_cons_succ]
          refine wpAnyH_take (i := 6) (oi := { dst := some 21, op := Op.fieldAddr 90 (Operand.tmp 20) 0, type := 0, pos := "ref.go:34", after := #[{ on := 5, ground := Ground.data }], guard := none }) (v := ?vc37) rfl (by kernel_rfl) (by kernel_rfl) (by kernel_rfl) (fun _ _ _ h => h) (Or.inl ⟨by rfl, ?yc37⟩) hS ?_
          case yc37 =>
            intro w hSw
            go_simp; all_goals (with_reducible rfl)
          simp only [Act.put, List.setIfInBounds_toArray, List.set_cons_zero, List.set_cons_succ]
          refine wpAnyH_take (i := 7) (oi := { dst := some 22, op := Op.load 22 (Operand.tmp 21), type := 22, pos := "ref.go:34", after := #[{ on := 6, ground := Ground.data }], guard := none }) (v := ?vc38) rfl (by kernel_rfl) (by kernel_rfl) (by kernel_rfl) (fun _ _ _ h => h) (Or.inl ⟨by rfl, ?yc38⟩) hS ?_
          case yc38 =>
            intro w hSw
            obtain ⟨j0, j1⟩ := hSw
            go_simp; all_goals (with_reducible rfl)
          simp only [Act.put, List.setIfInBounds_toArray, List.set_cons_zero, List.set_cons_succ]
          refine wpAnyH_take (i := 8) (oi := { dst := some 23, op := Op.call { callee := Callee.builtin Builtin.len, args := #[Operand.tmp 22], argTypes := #[22] }, type := 3, pos := "ref.go:34", after := #[{ on := 7, ground := Ground.data }], guard := none }) (v := ?vc39) rfl (by kernel_rfl) (by kernel_rfl) (by kernel_rfl) (fun _ _ _ h => h) (Or.inl ⟨by rfl, ?yc39⟩) hS ?_
          case yc39 =>
            intro w hSw
            go_simp; all_goals (with_reducible rfl)
          simp only [Act.put, List.setIfInBounds_toArray, List.set_cons_zero, List.set_cons_succ]
          refine wpAnyH_take (i := 9) (oi := { dst := some 24, op := Op.binOp BinOp.geq 3 (Operand.tmp 18) (Operand.tmp 23) 3, type := 4, pos := "ref.go:34", after := #[{ on := 3, ground := Ground.data }, { on := 8, ground := Ground.data }], guard := none }) (v := ?vc40) rfl (by kernel_rfl) (by kernel_rfl) (by kernel_rfl) (fun _ _ _ h => h) (Or.inl ⟨by rfl, ?yc40⟩) hS ?_
          case yc40 =>
            intro w hSw
            go_simp; all_goals (with_reducible rfl)
          simp only [Act.put, List.setIfInBounds_toArray, List.set_cons_zero, List.set_cons_succ]
          refine wpAnyH_done (by kernel_rfl) ?_ _
          have hT3 := hT2.below (drew_below w1)
          have hon2 := hon1.drew
          clear hT2 hon1 q0 q1
          generalize w1.drew = wd at *
          have k4 := c54 hT3.blk
          have f4 := frozen_of_row wd h 4 _ _ hT3.blk
          have hT4 : RDecAt (wd.setCell ⟨h, 4, none⟩ (.bool true)) h b off cc l c (r * 256) pos true := ⟨s54 hT3.blk _, bytes_set' hT3.own hT3.ne _, hT3.ne, by simpa using hT3.lt⟩
          have hon4 : Only [h] w (wd.setCell ⟨h, 4, none⟩ (.bool true)) := hon2.setCell (.inl (by simp)) _
          go_wp2_with fail
          refine bodyPost_ret (v := .tuple #[]) (by simp [results, Try.results68]) rfl ?_
          exact ⟨rfl, by rw [HST.out]; exact ⟨c, r * 256, (fun h => by cases h), hT4⟩, hon4⟩
    · have hy' : ¬ (r : Int) < 16777216 := by omega
      have hst : Rd.scale l gk ⟨pos, c, r, false⟩ = ⟨pos, c, r, false⟩ := Rd.scale_big hy
      have HST := Lib.hid (hsc.out.trans hst)
      clear hst hrt hsc hy hft
      go_wp2_with fail
      go_end0
      exact ⟨rfl, by rw [HST.out]; exact ⟨c, r, (fun _ => ⟨rfl, rfl⟩), hT⟩, hon⟩
end Go.Proofs.Ytdkimllfpiphgaa

/- The walks over the reference's Fair and Next. -/
namespace Go.Proofs.Ytdkimllfpiphgaa
open Go.RowKit

theorem bound_u64 (r p : Nat) (hr : r < 4294967296) (hp : p ≤ 2047) : IntKind.u64.wrap (((r : Int) / 2048) * (p : Int)) = ((r / 2048 * p : Nat) : Int) := by
  have h : r / 2048 * p ≤ r / 2048 * 2047 := Nat.mul_le_mul_left _ hp
  have e : ((r : Int) / 2048) * (p : Int) = ((r / 2048 * p : Nat) : Int) := by simp
  rw [e, IntWalk.u64_in _ ⟨by omega, by omega⟩]

set_option maxHeartbeats 400000 in
theorem fair_any (c : BitVec 16) (w : World) : Calls Try.prog 66 #[.int .u16 c.toNat] w fun e w' => e = .returned (.int .u64 (Rc.fair c.toNat : Nat)) ∧ w = w' := by
  have hc := c.isLt
  by_cases h1 : c.toNat = 0
  · have hf : Rc.fair c.toNat = 1024 := by unfold Rc.fair; rw [if_pos (.inl (by omega))]
    rw [hf, h1]
    go_enter Try.func66, Try.ntmps66
    go_wp2_with fail
    go_ret
    exact ⟨rfl, rfl⟩
  · have h1' : ((c.toNat : Int) == 0) = false := beq_eq_false_iff_ne.2 (by omega)
    by_cases h2 : 2048 ≤ c.toNat
    · have hf : Rc.fair c.toNat = 1024 := by unfold Rc.fair; rw [if_pos (.inr h2)]
      rw [hf]
      have h2' : (2047 : Int) < c.toNat := by omega
      go_enter Try.func66, Try.ntmps66
      go_wp2_with fail
      go_ret
      exact ⟨rfl, rfl⟩
    · have hf : Rc.fair c.toNat = c.toNat := by unfold Rc.fair; rw [if_neg (by omega)]
      rw [hf]
      have h2' : ¬ (2047 : Int) < c.toNat := by omega
      go_enter Try.func66, Try.ntmps66
      go_wp2_with fail
      go_ret
      exact ⟨rfl, rfl⟩

set_option maxHeartbeats 400000 in
theorem rnext_any (p : Nat) (one : Bool) (w : World) (h1 : 1 ≤ p) (h2 : p ≤ 2047) : Calls Try.prog 67 #[.int .u64 p, .int .i64 (bitI one)] w fun e w' => e = .returned (.int .u16 (Rc.next p one : Nat)) ∧ w = w' := by
  cases one
  · have hn : ((Rc.next p false : Nat) : Int) = (p : Int) + (2048 - (p : Int)) / 32 := by simp only [Rc.next, Bool.false_eq_true, if_false]; omega
    have HN := Lib.hid hn
    clear hn
    unfold bitI
    simp only [Bool.false_eq_true, if_false]
    go_enter Try.func67, Try.ntmps67
    go_wp2_with fail
    go_ret
    exact ⟨congrArg (fun n : Int => Ending.returned (Value.int .u16 n)) HN.out.symm, rfl⟩
  · have hn : ((Rc.next p true : Nat) : Int) = (p : Int) - (p : Int) / 32 := by simp only [Rc.next, if_true]; omega
    have HN := Lib.hid hn
    clear hn
    unfold bitI
    simp only [if_true]
    go_enter Try.func67, Try.ntmps67
    go_wp2_with fail
    go_ret
    exact ⟨congrArg (fun n : Int => Ending.returned (Value.int .u16 n)) HN.out.symm, rfl⟩
end Go.Proofs.Ytdkimllfpiphgaa

/- The walks over the reference's Bit, Plain and Done. -/
namespace Go.Proofs.Ytdkimllfpiphgaa
open Go.RowKit

def RDBit (w : World) (h b off cc : Nat) (l : List UInt8) (bit : Bool) (p : Nat) (s : Rd.St) (e : Ending) (w' : World) : Prop :=
  e = .returned (.tuple #[.int .i64 (bitI bit), .int .u16 (p : Nat)]) ∧ RMoved w h b off cc l s w'
def RDPlain (w : World) (h b off cc : Nat) (l : List UInt8) (v : Nat) (s : Rd.St) (e : Ending) (w' : World) : Prop := e = .returned (.int .u32 (v : Nat)) ∧ RMoved w h b off cc l s w'

set_option maxRecDepth 100000 in
set_option maxHeartbeats 1000000 in
theorem rdbit_any (h b off cc : Nat) (l : List UInt8) (s : Rd.St) (ch : BitVec 16) (w : World) (hE : RDecIs w h b off cc l s) (hs : s.ok l) (hl : l.length ≤ 140737488355328) :
    Calls Try.prog 53 #[.pointer (some ⟨h, 0, none⟩), .int .u16 ch.toNat] w
      (RDBit w h b off cc l (s.bit l (Rc.fair ch.toNat)).1 (Rc.next (Rc.fair ch.toNat) (s.bit l (Rc.fair ch.toNat)).1) (s.bit l (Rc.fair ch.toNat)).2) := by
  obtain ⟨hp1, hp2⟩ := Rc.fair_bounds ch.toNat
  have hv := Lib.hid (fun w => fair_any ch w)
  generalize Rc.fair ch.toNat = p at *
  obtain ⟨x, y, hxy, hT0⟩ := hE
  obtain ⟨pos, c, r, out⟩ := s
  cases out with
  | true =>
    have hb : (Rd.St.bit l ⟨pos, c, r, true⟩ p) = (false, ⟨pos, c, r, true⟩) := rfl
    rw [hb]
    have hT : RDecAt w h b off cc l x y pos true := hT0
    have hmv := Lib.hid (fun w => rnext_any p false w hp1 hp2)
    have k4 := c54 hT.blk
    clear hT0 hxy hb hs
    generalize Rc.next p false = nx at *
    go_enter Try.func53, Try.ntmps53
    go_wp2_with fail
    refine (hv.out _).mono ?_
    rintro e w' ⟨rfl, rfl⟩
    go_wp2_with fail
    refine (hmv.out _).mono ?_
    rintro e w' ⟨rfl, rfl⟩
    go_wp2_with fail
    go_ret2
    exact ⟨rfl, ⟨x, y, (fun h => by cases h), hT⟩, Only.refl _ _⟩
  | false =>
    obtain rfl : c = x := (hxy rfl).1.symm
    obtain rfl : r = y := (hxy rfl).2.symm
    have hT : RDecAt w h b off cc l c r pos false := hT0
    have hb : (Rd.St.bit l ⟨pos, c, r, false⟩ p) = (Rd.St.one ⟨pos, c, r, false⟩ p, Rd.scale l 2 (Rd.St.pick ⟨pos, c, r, false⟩ p)) := rfl
    obtain ⟨hpf, hpr⟩ := Rd.St.pick_fits hs rfl hp1 hp2
    have hr32 : r < 4294967296 := hs.1.2.2
    have hc32 : c < 4294967296 := hs.1.2.1
    rw [hb]
    clear hb hT0 hxy hs
    have hbd := bound_u64 r p hr32 hp2
    have hble : r / 2048 * p ≤ r / 2048 * 2047 := Nat.mul_le_mul_left _ hp2
    have k2 := c52 hT.blk
    have k3 := c53 hT.blk
    have k4 := c54 hT.blk
    have f2 := frozen_of_row w h 2 _ _ hT.blk
    have f3 := frozen_of_row w h 3 _ _ hT.blk
    by_cases hlt : r / 2048 * p ≤ c
    · have hone : Rd.St.one ⟨pos, c, r, false⟩ p = true := decide_eq_true hlt
      have hpk : Rd.St.pick ⟨pos, c, r, false⟩ p = ⟨pos, c - r / 2048 * p, r - r / 2048 * p, false⟩ := if_pos hlt
      have hmv := Lib.hid (fun w => rnext_any p true w hp1 hp2)
      rw [hone]
      rw [hpk] at hpf hpr ⊢
      have hbr : r / 2048 * p ≤ r := by omega
      clear hone hpk
      generalize r / 2048 * p = bnd at *
      have hn : (bnd : Int) ≤ (c : Int) := by omega
      have e1 : (c : Int) - (bnd : Int) = ((c - bnd : Nat) : Int) := by omega
      have e2 : (r : Int) - (bnd : Int) = ((r - bnd : Nat) : Int) := by omega
      have hT1 : RDecAt ((w.setCell ⟨h, 2, none⟩ (.int .u64 ((c - bnd : Nat) : Int))).setCell ⟨h, 3, none⟩ (.int .u64 ((r - bnd : Nat) : Int))) h b off cc l (c - bnd) (r - bnd) pos false :=
        ⟨s53 (s52 hT.blk _) _, bytes_set' (bytes_set' hT.own hT.ne _) hT.ne _, hT.ne, by simpa using hT.lt⟩
      have hsh := Lib.hid (rdscale_any 2 h b off cc l ⟨pos, c - bnd, r - bnd, false⟩ _ hT1 rfl hpf hl (by show 16777216 ≤ (r - bnd) * 256 ^ 2; have : 8192 ≤ r - bnd := hpr; omega))
      have k3' := c53 (s52 hT.blk (.int .u64 ((c - bnd : Nat) : Int)))
      have f3' := frozen_of_row (w.setCell ⟨h, 2, none⟩ (.int .u64 ((c - bnd : Nat) : Int))) h 3 _ _ (s52 hT.blk (.int .u64 ((c - bnd : Nat) : Int)))
      generalize c - bnd = cb at *
      generalize r - bnd = rb at *
      generalize Rc.next p true = nx at *
      go_enter Try.func53, Try.ntmps53
      go_wp2_with fail
      refine (hv.out _).mono ?_
      rintro e w' ⟨rfl, rfl⟩
      go_wp2_with fail
      refine hsh.out.mono ?_
      rintro e w1 ⟨rfl, hE2, hon⟩
      go_wp2_with fail
      refine (hmv.out _).mono ?_
      rintro e w' ⟨rfl, rfl⟩
      go_wp2_with fail
      go_ret2
      exact ⟨rfl, hE2, ((((Only.refl _ _).setCell (p := ⟨h, 2, none⟩) (.inl (by simp)) _).setCell (p := ⟨h, 3, none⟩) (.inl (by simp)) _).trans hon (by simp))⟩
    · have hone : Rd.St.one ⟨pos, c, r, false⟩ p = false := decide_eq_false hlt
      have hpk : Rd.St.pick ⟨pos, c, r, false⟩ p = ⟨pos, c, r / 2048 * p, false⟩ := if_neg hlt
      have hmv := Lib.hid (fun w => rnext_any p false w hp1 hp2)
      rw [hone]
      rw [hpk] at hpf hpr ⊢
      clear hone hpk
      generalize r / 2048 * p = bnd at *
      have hn : ¬ (bnd : Int) ≤ (c : Int) := by omega
      have hT1 : RDecAt (w.setCell ⟨h, 3, none⟩ (.int .u64 (bnd : Nat))) h b off cc l c bnd pos false :=
        ⟨s53 hT.blk _, bytes_set' hT.own hT.ne _, hT.ne, by simpa using hT.lt⟩
      have hsh := Lib.hid (rdscale_any 2 h b off cc l ⟨pos, c, bnd, false⟩ _ hT1 rfl hpf hl (by show 16777216 ≤ bnd * 256 ^ 2; have : 8192 ≤ bnd := hpr; omega))
      generalize Rc.next p false = nx at *
      go_enter Try.func53, Try.ntmps53
      go_wp2_with fail
      refine (hv.out _).mono ?_
      rintro e w' ⟨rfl, rfl⟩
      go_wp2_with fail
      refine hsh.out.mono ?_
      rintro e w1 ⟨rfl, hE2, hon⟩
      go_wp2_with fail
      refine (hmv.out _).mono ?_
      rintro e w' ⟨rfl, rfl⟩
      go_wp2_with fail
      go_ret2
      exact ⟨rfl, hE2, ((Only.refl _ _).setCell (p := ⟨h, 3, none⟩) (.inl (by simp)) _).trans hon (by simp)⟩

set_option maxRecDepth 100000 in
set_option maxHeartbeats 1000000 in
theorem rdplain_any (h b off cc : Nat) (l : List UInt8) (s : Rd.St) (m : Nat) (w : World) (hE : RDecIs w h b off cc l s) (hs : s.ok l) (hl : l.length ≤ 140737488355328) (hm : m ≤ 32) :
    Calls Try.prog 60 #[.pointer (some ⟨h, 0, none⟩), .int .i64 (m : Nat)] w (RDPlain w h b off cc l (s.plain l m).1 (s.plain l m).2) := by
  go_enter Try.func60, Try.ntmps60
  go_wp2_with fail
  go_loopw [5, 6] (fun vv i wr => ∃ t : Nat, t ≤ m ∧ vv = .int .u32 ((s.rounds l t).1 : Nat) ∧ i = .int .i64 (t : Nat) ∧ RDecIs wr h b off cc l (s.rounds l t).2 ∧ Only [h] w wr) (fun _ i _ => m - (intOf i).toNat)
  case atStart => exact ⟨0, by omega, rfl, rfl, hE, Only.refl _ _⟩
  case round =>
      obtain ⟨t, ht, rfl, rfl, hD, hon⟩ := hrel
      obtain ⟨hqok, hvlt⟩ := Rd.St.rounds_ok hs t
      clear hE
      by_cases hout : (s.rounds l t).2.out = true
      · have hpl := Rd.St.plain_of_out ht hout
        have HPL := Lib.hid hpl
        generalize (s.rounds l t).2 = q at *
        generalize (s.rounds l t).1 = v at *
        have hD2 := hD
        obtain ⟨x, y, _, hT⟩ := hD2
        have k4 := c54 hT.blk
        rw [hout] at k4
        have HOUT := Lib.hid hout
        clear hpl hout hT
        by_cases hlt : t < m
        · have hlt' : (t : Int) < m := by omega
          go_wp2_with fail
          go_ret
          exact ⟨by rw [HPL.out]; rfl, by rw [HPL.out]; exact hD, hon⟩
        · have hlt' : ¬ (t : Int) < m := by omega
          go_wp2_with fail
          go_ret
          exact ⟨by rw [HPL.out]; rfl, by rw [HPL.out]; exact hD, hon⟩
      · have hout' : (s.rounds l t).2.out = false := by simpa using hout
        have hnext : s.rounds l (t + 1) = (2 * (s.rounds l t).1 + (if (s.rounds l t).2.r / 2 ≤ (s.rounds l t).2.c then 1 else 0), Rd.scale l 1 (s.rounds l t).2.half) := by
          rw [Rd.St.rounds, if_neg hout]
        have HN := Lib.hid hnext
        have HPI := Lib.hid (fun h : t = m => (h ▸ Rd.St.plain_of_in hout' : s.plain l m = s.rounds l t))
        clear hnext hout
        generalize hQ : s.rounds l t = Q at *
        obtain ⟨v, q⟩ := Q
        simp only at HN hqok hvlt hD hout' HPI
        clear hQ
        have hout := hout'
        clear hout'
        by_cases hlt : t < m
        · have hlt' : (t : Int) < m := by omega
          clear HPI
          obtain ⟨x, y, hxy, hT0⟩ := hD
          obtain ⟨pos, c, r, out⟩ := q
          simp only at hout
          subst hout
          obtain rfl : c = x := (hxy rfl).1.symm
          obtain rfl : r = y := (hxy rfl).2.symm
          obtain ⟨hhf, hhr⟩ := Rd.St.half_fits hqok rfl
          have hr32 : r < 4294967296 := hqok.1.2.2
          have hc32 : c < 4294967296 := hqok.1.2.1
          have hT : RDecAt wr h b off cc l c r pos false := hT0
          have hhalf : Rd.St.half ⟨pos, c, r, false⟩ = if r / 2 ≤ c then ⟨pos, c - r / 2, r / 2, false⟩ else ⟨pos, c, r / 2, false⟩ := rfl
          simp only at HN
          have hr2 : (r : Int) / 2 = ((r / 2 : Nat) : Int) := by omega
          have hrl : r / 2 < 4294967296 := by omega
          have k3 := c53 hT.blk
          have k4 := c54 hT.blk
          have f3 := frozen_of_row wr h 3 _ _ hT.blk
          generalize hrh : r / 2 = rh at *
          have hT1 : RDecAt (wr.setCell ⟨h, 3, none⟩ (.int .u64 (rh : Nat))) h b off cc l c rh pos false := ⟨s53 hT.blk _, bytes_set' hT.own hT.ne _, hT.ne, by simpa using hT.lt⟩
          have hon1 : Only [h] w (wr.setCell ⟨h, 3, none⟩ (.int .u64 (rh : Nat))) := hon.setCell (.inl (by simp)) _
          generalize hw1 : wr.setCell ⟨h, 3, none⟩ (.int .u64 (rh : Nat)) = w1 at *
          have HW1 := Lib.hid hw1
          have HHF := Lib.hid hhalf
          clear hw1 hxy hT0 hrh hqok hhalf
          have q2 : w1.drew.cell? ⟨h, 2, none⟩ = some (.int .u64 (c : Nat)) := c52 hT1.blk
          have q3 : w1.drew.cell? ⟨h, 3, none⟩ = some (.int .u64 (rh : Nat)) := c53 hT1.blk
          have hv2 : 2 * v < 4294967295 := by
            have : 2 ^ (t + 1) ≤ 2 ^ 32 := Nat.pow_le_pow_right (by omega) (by omega)
            rw [Nat.pow_succ] at this; omega
          have hvi : (v : Int) * 2 < 4294967295 := by omega
          by_cases hcr : rh ≤ c
          · have hhe : Rd.St.half ⟨pos, c, r, false⟩ = ⟨pos, c - rh, rh, false⟩ := by rw [HHF.out, if_pos hcr]
            have hci : (rh : Int) ≤ (c : Int) := by omega
            rw [if_pos hcr, hhe] at HN
            rw [hhe] at hhf hhr
            have hsub : IntKind.u64.wrap ((c : Int) - (rh : Int)) = ((c - rh : Nat) : Int) := by rw [IntKind.wrap_u64]; omega
            generalize c - rh = cb at *
            clear hhe
            go_upto_region 7 with (fail)
            rw [HW1.out]
            clear k3 k4 f3 HW1
            refine wp_region_held_drew (S := fun w' => w'.cell? ⟨h, 2, none⟩ = some (.int .u64 (c : Nat)) ∧ w'.cell? ⟨h, 3, none⟩ = some (.int .u64 (rh : Nat))) (by kernel_rfl) ⟨q2, q3⟩ (fun hS => ?_)
            refine wpAnyH_take (i := 0) (oi := { dst := some 29, op := Op.move (Operand.tmp 0), type := 32, pos := "ref.go:68", after := #[], guard := none }) (v := ?va1) rfl (by kernel_rfl) (by kernel_rfl) (by kernel_rfl) (fun _ _ _ h => h) (Or.inl ⟨by rfl, ?ya1⟩) hS ?_
            case ya1 =>
              intro w hSw
              go_simp; all_goals (with_reducible rfl)
            simp only [Act.put, List.setIfInBounds_toArray, List.set_cons_zero, List.set_cons_succ]
            refine wpAnyH_take (i := 1) (oi := { dst := some 30, op := Op.nilCheck (Operand.tmp 29), type := 0, pos := "ref.go:68", after := #[{ on := 0, ground := Ground.data }], guard := none }) (v := ?va2) rfl (by kernel_rfl) (by kernel_rfl) (by kernel_rfl) (fun _ _ _ h => h) (Or.inl ⟨by rfl, ?ya2⟩) hS ?_
            case ya2 =>
              intro w hSw
              go_simp; all_goals (with_reducible rfl)
            simp only [Act.put, List.setIfInBounds_toArray, List.set_cons_zero, List.set_cons_succ]
            refine wpAnyH_take (i := 2) (oi := { dst := some 31, op := Op.fieldAddr 90 (Operand.tmp 30) 2, type := 0, pos := "ref.go:68", after := #[{ on := 1, ground := Ground.data }], guard := none }) (v := ?va3) rfl (by kernel_rfl) (by kernel_rfl) (by kernel_rfl) (fun _ _ _ h => h) (Or.inl ⟨by rfl, ?ya3⟩) hS ?_
            case ya3 =>
              intro w hSw
              go_simp; all_goals (with_reducible rfl)
            simp only [Act.put, List.setIfInBounds_toArray, List.set_cons_zero, List.set_cons_succ]
            refine wpAnyH_take (i := 3) (oi := { dst := some 32, op := Op.load 88 (Operand.tmp 31), type := 88, pos := "ref.go:68", after := #[{ on := 2, ground := Ground.data }], guard := none }) (v := ?va4) rfl (by kernel_rfl) (by kernel_rfl) (by kernel_rfl) (fun _ _ _ h => h) (Or.inl ⟨by rfl, ?ya4⟩) hS ?_
            case ya4 =>
              intro w hSw
              obtain ⟨j2, j3⟩ := hSw
              go_simp; all_goals (with_reducible rfl)
            simp only [Act.put, List.setIfInBounds_toArray, List.set_cons_zero, List.set_cons_succ]
            refine wpAnyH_take (i := 4) (oi := { dst := some 33, op := Op.move (Operand.tmp 0), type := 32, pos := "ref.go:68", after := #[], guard := none }) (v := ?va5) rfl (by kernel_rfl) (by kernel_rfl) (by kernel_rfl) (fun _ _ _ h => h) (Or.inl ⟨by rfl, ?ya5⟩) hS ?_
            case ya5 =>
              intro w hSw
              go_simp; all_goals (with_reducible rfl)
            simp only [Act.put, List.setIfInBounds_toArray, List.set_cons_zero, List.set_cons_succ]
            refine wpAnyH_take (i := 5) (oi := { dst := some 34, op := Op.nilCheck (Operand.tmp 33), type := 0, pos := "ref.go:68", after := #[{ on := 4, ground := Ground.data }], guard := none }) (v := ?va6) rfl (by kernel_rfl) (by kernel_rfl) (by kernel_rfl) (fun _ _ _ h => h) (Or.inl ⟨by rfl, ?ya6⟩) hS ?_
            case ya6 =>
              intro w hSw
              go_simp; all_goals (with_reducible rfl)
            simp only [Act.put, List.setIfInBounds_toArray, List.set_cons_zero, List.set_cons_succ]
            refine wpAnyH_take (i := 6) (oi := { dst := some 35, op := Op.fieldAddr 90 (Operand.tmp 34) 3, type := 0, pos := "ref.go:68", after := #[{ on := 5, ground := Ground.data }], guard := none }) (v := ?va7) rfl (by kernel_rfl) (by kernel_rfl) (by kernel_rfl) (fun _ _ _ h => h) (Or.inl ⟨by rfl, ?ya7⟩) hS ?_
            case ya7 =>
              intro w hSw
              go_simp; all_goals (with_reducible rfl)
            simp only [Act.put, List.setIfInBounds_toArray, List.set_cons_zero, List.set_cons_succ]
            refine wpAnyH_take (i := 7) (oi := { dst := some 36, op := Op.load 88 (Operand.tmp 35), type := 88, pos := "ref.go:68", after := #[{ on := 6, ground := Ground.data }], guard := none }) (v := ?va8) rfl (by kernel_rfl) (by kernel_rfl) (by kernel_rfl) (fun _ _ _ h => h) (Or.inl ⟨by rfl, ?ya8⟩) hS ?_
            case ya8 =>
              intro w hSw
              obtain ⟨j2, j3⟩ := hSw
              go_simp; all_goals (with_reducible rfl)
            simp only [Act.put, List.setIfInBounds_toArray, List.set_cons_zero, List.set_cons_succ]
            refine wpAnyH_take (i := 8) (oi := { dst := some 37, op := Op.binOp BinOp.geq 88 (Operand.tmp 32) (Operand.tmp 36) 88, type := 4, pos := "ref.go:68", after := #[{ on := 3, ground := Ground.data }, { on := 7, ground := Ground.data }], guard := none }) (v := ?va9) rfl (by kernel_rfl) (by kernel_rfl) (by kernel_rfl) (fun _ _ _ h => h) (Or.inl ⟨by rfl, ?ya9⟩) hS ?_
            case ya9 =>
              intro w hSw
              go_simp; all_goals (with_reducible rfl)
            simp only [Act.put, List.setIfInBounds_toArray, List.set_cons_zero, List.set_cons_succ]
            refine wpAnyH_done (by kernel_rfl) ?_ _
            have hT2 := hT1.below (drew_below w1)
            have hon2 := hon1.drew
            clear q2 q3 hT1 hon1
            generalize w1.drew = wd at *
            go_upto_region 8 with (fail)
            have k2 : wd.drew.cell? ⟨h, 2, none⟩ = some (.int .u64 (c : Nat)) := c52 hT2.blk
            have q3 : wd.drew.cell? ⟨h, 3, none⟩ = some (.int .u64 (rh : Nat)) := c53 hT2.blk
            have f2 : wd.drew.frozen? ⟨h, 2, none⟩ = false := frozen_of_row wd.drew h 2 _ _ hT2.blk
            have hT3a : RDecAt (wd.setCell ⟨h, 2, none⟩ (.int .u64 (cb : Nat))) h b off cc l cb rh pos false := ⟨s52 hT2.blk _, bytes_set' hT2.own hT2.ne _, hT2.ne, by simpa using hT2.lt⟩
            have hT3 := hT3a.below (drew_below _)
            have hon3 : Only [h] w (wd.setCell ⟨h, 2, none⟩ (.int .u64 (cb : Nat))).drew := (hon2.setCell (.inl (by simp)) _).drew
            have hq : (wd.setCell ⟨h, 2, none⟩ (.int .u64 (cb : Nat))).drew.cell? ⟨h, 3, none⟩ = some (.int .u64 (rh : Nat)) := c53 hT3.blk
            have hsh := Lib.hid (rdscale_any 1 h b off cc l ⟨pos, cb, rh, false⟩ _ hT3 rfl hhf hl (by show 16777216 ≤ rh * 256 ^ 1; have : 8388608 ≤ rh := hhr; omega))
            clear hT3a
            refine wp_region_held_drew (S := fun w' => w'.cell? ⟨h, 3, none⟩ = some (.int .u64 (rh : Nat))) (by kernel_rfl) q3 (fun hS => ?_)
            refine wpAnyH_take (i := 0) (oi := { dst := some 38, op := Op.move (Operand.tmp 0), type := 32, pos := "ref.go:69", after := #[], guard := none }) (v := ?vb10) rfl (by kernel_rfl) (by kernel_rfl) (by kernel_rfl) (fun _ _ _ h => h) (Or.inl ⟨by rfl, ?yb10⟩) hS ?_
            case yb10 =>
              intro w hSw
              go_simp; all_goals (with_reducible rfl)
            simp only [Act.put, List.setIfInBounds_toArray, List.set_cons_zero, List.set_cons_succ]
            refine wpAnyH_take (i := 1) (oi := { dst := some 39, op := Op.move (Operand.tmp 0), type := 32, pos := "ref.go:69", after := #[], guard := none }) (v := ?vb11) rfl (by kernel_rfl) (by kernel_rfl) (by kernel_rfl) (fun _ _ _ h => h) (Or.inl ⟨by rfl, ?yb11⟩) hS ?_
            case yb11 =>
              intro w hSw
              go_simp; all_goals (with_reducible rfl)
            simp only [Act.put, List.setIfInBounds_toArray, List.set_cons_zero, List.set_cons_succ]
            refine wpAnyH_take (i := 2) (oi := { dst := some 40, op := Op.nilCheck (Operand.tmp 39), type := 0, pos := "ref.go:69", after := #[{ on := 1, ground := Ground.data }], guard := none }) (v := ?vb12) rfl (by kernel_rfl) (by kernel_rfl) (by kernel_rfl) (fun _ _ _ h => h) (Or.inl ⟨by rfl, ?yb12⟩) hS ?_
            case yb12 =>
              intro w hSw
              go_simp; all_goals (with_reducible rfl)
            simp only [Act.put, List.setIfInBounds_toArray, List.set_cons_zero, List.set_cons_succ]
            refine wpAnyH_take (i := 3) (oi := { dst := some 41, op := Op.fieldAddr 90 (Operand.tmp 40) 2, type := 0, pos := "ref.go:69", after := #[{ on := 2, ground := Ground.data }], guard := none }) (v := ?vb13) rfl (by kernel_rfl) (by kernel_rfl) (by kernel_rfl) (fun _ _ _ h => h) (Or.inl ⟨by rfl, ?yb13⟩) hS ?_
            case yb13 =>
              intro w hSw
              go_simp; all_goals (with_reducible rfl)
            simp only [Act.put, List.setIfInBounds_toArray, List.set_cons_zero, List.set_cons_succ]
            refine wpAnyH_take (i := 5) (oi := { dst := some 43, op := Op.move (Operand.tmp 0), type := 32, pos := "ref.go:69", after := #[], guard := none }) (v := ?vb14) rfl (by kernel_rfl) (by kernel_rfl) (by kernel_rfl) (fun _ _ _ h => h) (Or.inl ⟨by rfl, ?yb14⟩) hS ?_
            case yb14 =>
              intro w hSw
              go_simp; all_goals (with_reducible rfl)
            simp only [Act.put, List.setIfInBounds_toArray, List.set_cons_zero, List.set_cons_succ]
            refine wpAnyH_take (i := 6) (oi := { dst := some 44, op := Op.nilCheck (Operand.tmp 43), type := 0, pos := "ref.go:69", after := #[{ on := 5, ground := Ground.data }], guard := none }) (v := ?vb15) rfl (by kernel_rfl) (by kernel_rfl) (by kernel_rfl) (fun _ _ _ h => h) (Or.inl ⟨by rfl, ?yb15⟩) hS ?_
            case yb15 =>
              intro w hSw
              go_simp; all_goals (with_reducible rfl)
            simp only [Act.put, List.setIfInBounds_toArray, List.set_cons_zero, List.set_cons_succ]
            refine wpAnyH_take (i := 7) (oi := { dst := some 45, op := Op.fieldAddr 90 (Operand.tmp 44) 3, type := 0, pos := "ref.go:69", after := #[{ on := 6, ground := Ground.data }], guard := none }) (v := ?vb16) rfl (by kernel_rfl) (by kernel_rfl) (by kernel_rfl) (fun _ _ _ h => h) (Or.inl ⟨by rfl, ?yb16⟩) hS ?_
            case yb16 =>
              intro w hSw
              go_simp; all_goals (with_reducible rfl)
            simp only [Act.put, List.setIfInBounds_toArray, List.set_cons_zero, List.set_cons_succ]
            refine wpAnyH_take (i := 8) (oi := { dst := some 46, op := Op.load 88 (Operand.tmp 45), type := 88, pos := "ref.go:69", after := #[{ on := 7, ground := Ground.data }], guard := none }) (v := ?vb17) rfl (by kernel_rfl) (by kernel_rfl) (by kernel_rfl) (fun _ _ _ h => h) (Or.inl ⟨by rfl, ?yb17⟩) hS ?_
            case yb17 =>
              intro w hSw
              have j3 := hSw
              go_simp; all_goals (with_reducible rfl)
            simp only [Act.put, List.setIfInBounds_toArray, List.set_cons_zero, List.set_cons_succ]
            refine wpAnyH_ready (rs := [4]) (by kernel_rfl) (by simp) ?_
            refine (AllReadyH.cons (o := { dst := some 42, op := Op.load 88 (Operand.tmp 41), type := 88, pos := "ref.go:69", after := #[{ on := 3, ground := Ground.data }], guard := none }) rfl (fun K hK => ?_) AllReadyH.nil)
            go_simp
            refine hK.out _ _ hS (fun _ => ?_)
            clear hK K
            refine wpAnyH_take (i := 9) (oi := { dst := some 47, op := Op.binOp BinOp.sub 88 (Operand.tmp 42) (Operand.tmp 46) 88, type := 88, pos := "ref.go:69", after := #[{ on := 4, ground := Ground.data }, { on := 8, ground := Ground.data }], guard := none }) (v := ?vb18) rfl (by kernel_rfl) (by kernel_rfl) (by kernel_rfl) (fun _ _ _ h => h) (Or.inl ⟨by rfl, ?yb18⟩) hS ?_
            case yb18 =>
              intro w hSw
              go_simp; all_goals (with_reducible rfl)
            simp only [Act.put, List.setIfInBounds_toArray, List.set_cons_zero, List.set_cons_succ]
            refine wpAnyH_take (i := 10) (oi := { dst := some 48, op := Op.nilCheck (Operand.tmp 38), type := 0, pos := "ref.go:69", after := #[{ on := 0, ground := Ground.data }, { on := 0, ground := Ground.phase }, { on := 1, ground := Ground.phase }, { on := 2, ground := Ground.phase }, { on := 3, ground := Ground.phase }, { on := 4, ground := Ground.phase }, { on := 5, ground := Ground.phase }, { on := 6, ground := Ground.phase }, { on := 7, ground := Ground.phase }, { on := 8, ground := Ground.phase }, { on := 9, ground := Ground.phase }], guard := none }) (v := ?vb19) rfl (by kernel_rfl) (by kernel_rfl) (by kernel_rfl) (fun _ _ _ h => h) (Or.inl ⟨by rfl, ?yb19⟩) hS ?_
            case yb19 =>
              intro w hSw
              go_simp; all_goals (with_reducible rfl)
            simp only [Act.put, List.setIfInBounds_toArray, List.set_cons_zero, List.set_cons_succ]
            refine wpAnyH_take (i := 11) (oi := { dst := some 49, op := Op.fieldAddr 90 (Operand.tmp 48) 2, type := 0, pos := "ref.go:69", after := #[{ on := 10, ground := Ground.data }, { on := 0, ground := Ground.phase }, { on := 1, ground := Ground.phase }, { on := 2, ground := Ground.phase }, { on := 3, ground := Ground.phase }, { on := 4, ground := Ground.phase }, { on := 5, ground := Ground.phase }, { on := 6, ground := Ground.phase }, { on := 7, ground := Ground.phase }, { on := 8, ground := Ground.phase }, { on := 9, ground := Ground.phase }], guard := none }) (v := ?vb20) rfl (by kernel_rfl) (by kernel_rfl) (by kernel_rfl) (fun _ _ _ h => h) (Or.inl ⟨by rfl, ?yb20⟩) hS ?_
            case yb20 =>
              intro w hSw
              go_simp; all_goals (with_reducible rfl)
            simp only [Act.put, List.setIfInBounds_toArray, List.set_cons_zero, List.set_cons_succ]
            refine wpAnyH_ready (rs := [12]) (by kernel_rfl) (by simp) ?_
            refine (AllReadyH.cons (o := { dst := none, op := Op.store 88 (Operand.tmp 49) (Operand.tmp 47), type := 0, pos := "ref.go:69", after := #[{ on := 11, ground := Ground.data }, { on := 9, ground := Ground.data }, { on := 0, ground := Ground.phase }, { on := 1, ground := Ground.phase }, { on := 2, ground := Ground.phase }, { on := 3, ground := Ground.phase }, { on := 4, ground := Ground.phase }, { on := 5, ground := Ground.phase }, { on := 6, ground := Ground.phase }, { on := 7, ground := Ground.phase }, { on := 8, ground := Ground.phase }, { on := 9, ground := Ground.phase }], guard := none }) rfl (fun K hK => ?_) AllReadyH.nil)
            go_simp
            refine hK.out _ _ hq (fun _ => ?_)
            clear hK K
            refine wpAnyH_done (by kernel_rfl) ?_ _
            generalize (wd.setCell ⟨h, 2, none⟩ (.int .u64 (cb : Nat))).drew = w3 at *
            clear k2 q3 f2 hq hT2 hon2
            go_wp2_with fail
            refine hsh.out.mono ?_
            rintro e w4 ⟨rfl, hE4, hon4⟩
            go_wp2_with fail
            go_roundw
            case rel => exact ⟨t + 1, by omega, by rw [HN.out]; exact congrArg (Value.int .u32) (by omega), congrArg (Value.int .i64) (by omega), by rw [HN.out]; exact hE4, hon3.trans hon4 (by simp)⟩
            case measure => simp [intOf] <;> omega
          · have hhe : Rd.St.half ⟨pos, c, r, false⟩ = ⟨pos, c, rh, false⟩ := by rw [HHF.out, if_neg hcr]
            have hci : ¬ (rh : Int) ≤ (c : Int) := by omega
            rw [if_neg hcr, hhe] at HN
            rw [hhe] at hhf hhr
            clear hhe
            go_upto_region 7 with (fail)
            rw [HW1.out]
            clear k3 k4 f3 HW1
            refine wp_region_held_drew (S := fun w' => w'.cell? ⟨h, 2, none⟩ = some (.int .u64 (c : Nat)) ∧ w'.cell? ⟨h, 3, none⟩ = some (.int .u64 (rh : Nat))) (by kernel_rfl) ⟨q2, q3⟩ (fun hS => ?_)
            refine wpAnyH_take (i := 0) (oi := { dst := some 29, op := Op.move (Operand.tmp 0), type := 32, pos := "ref.go:68", after := #[], guard := none }) (v := ?vc21) rfl (by kernel_rfl) (by kernel_rfl) (by kernel_rfl) (fun _ _ _ h => h) (Or.inl ⟨by rfl, ?yc21⟩) hS ?_
            case yc21 =>
              intro w hSw
              go_simp; all_goals (with_reducible rfl)
            simp only [Act.put, List.setIfInBounds_toArray, List.set_cons_zero, List.set_cons_succ]
            refine wpAnyH_take (i := 1) (oi := { dst := some 30, op := Op.nilCheck (Operand.tmp 29), type := 0, pos := "ref.go:68", after := #[{ on := 0, ground := Ground.data }], guard := none }) (v := ?vc22) rfl (by kernel_rfl) (by kernel_rfl) (by kernel_rfl) (fun _ _ _ h => h) (Or.inl ⟨by rfl, ?yc22⟩) hS ?_
            case yc22 =>
              intro w hSw
              go_simp; all_goals (with_reducible rfl)
            simp only [Act.put, List.setIfInBounds_toArray, List.set_cons_zero, List.set_cons_succ]
            refine wpAnyH_take (i := 2) (oi := { dst := some 31, op := Op.fieldAddr 90 (Operand.tmp 30) 2, type := 0, pos := "ref.go:68", after := #[{ on := 1, ground := Ground.data }], guard := none }) (v := ?vc23) rfl (by kernel_rfl) (by kernel_rfl) (by kernel_rfl) (fun _ _ _ h => h) (Or.inl ⟨by rfl, ?yc23⟩) hS ?_
            case yc23 =>
              intro w hSw
              go_simp; all_goals (with_reducible rfl)
            simp only [Act.put, List.setIfInBounds_toArray, List.set_cons_zero, List.set_cons_succ]
            refine wpAnyH_take (i := 3) (oi := { dst := some 32, op := Op.load 88 (Operand.tmp 31), type := 88, pos := "ref.go:68", after := #[{ on := 2, ground := Ground.data }], guard := none }) (v := ?vc24) rfl (by kernel_rfl) (by kernel_rfl) (by kernel_rfl) (fun _ _ _ h => h) (Or.inl ⟨by rfl, ?yc24⟩) hS ?_
            case yc24 =>
              intro w hSw
              obtain ⟨j2, j3⟩ := hSw
              go_simp; all_goals (with_reducible rfl)
            simp only [Act.put, List.setIfInBounds_toArray, List.set_cons_zero, List.set_cons_succ]
            refine wpAnyH_take (i := 4) (oi := { dst := some 33, op := Op.move (Operand.tmp 0), type := 32, pos := "ref.go:68", after := #[], guard := none }) (v := ?vc25) rfl (by kernel_rfl) (by kernel_rfl) (by kernel_rfl) (fun _ _ _ h => h) (Or.inl ⟨by rfl, ?yc25⟩) hS ?_
            case yc25 =>
              intro w hSw
              go_simp; all_goals (with_reducible rfl)
            simp only [Act.put, List.setIfInBounds_toArray, List.set_cons_zero, List.set_cons_succ]
            refine wpAnyH_take (i := 5) (oi := { dst := some 34, op := Op.nilCheck (Operand.tmp 33), type := 0, pos := "ref.go:68", after := #[{ on := 4, ground := Ground.data }], guard := none }) (v := ?vc26) rfl (by kernel_rfl) (by kernel_rfl) (by kernel_rfl) (fun _ _ _ h => h) (Or.inl ⟨by rfl, ?yc26⟩) hS ?_
            case yc26 =>
              intro w hSw
              go_simp; all_goals (with_reducible rfl)
            simp only [Act.put, List.setIfInBounds_toArray, List.set_cons_zero, List.set_cons_succ]
            refine wpAnyH_take (i := 6) (oi := { dst := some 35, op := Op.fieldAddr 90 (Operand.tmp 34) 3, type := 0, pos := "ref.go:68", after := #[{ on := 5, ground := Ground.data }], guard := none }) (v := ?vc27) rfl (by kernel_rfl) (by kernel_rfl) (by kernel_rfl) (fun _ _ _ h => h) (Or.inl ⟨by rfl, ?yc27⟩) hS ?_
            case yc27 =>
              intro w hSw
              go_simp; all_goals (with_reducible rfl)
            simp only [Act.put, List.setIfInBounds_toArray, List.set_cons_zero, List.set_cons_succ]
            refine wpAnyH_take (i := 7) (oi := { dst := some 36, op := Op.load 88 (Operand.tmp 35), type := 88, pos := "ref.go:68", after := #[{ on := 6, ground := Ground.data }], guard := none }) (v := ?vc28) rfl (by kernel_rfl) (by kernel_rfl) (by kernel_rfl) (fun _ _ _ h => h) (Or.inl ⟨by rfl, ?yc28⟩) hS ?_
            case yc28 =>
              intro w hSw
              obtain ⟨j2, j3⟩ := hSw
              go_simp; all_goals (with_reducible rfl)
            simp only [Act.put, List.setIfInBounds_toArray, List.set_cons_zero, List.set_cons_succ]
            refine wpAnyH_take (i := 8) (oi := { dst := some 37, op := Op.binOp BinOp.geq 88 (Operand.tmp 32) (Operand.tmp 36) 88, type := 4, pos := "ref.go:68", after := #[{ on := 3, ground := Ground.data }, { on := 7, ground := Ground.data }], guard := none }) (v := ?vc29) rfl (by kernel_rfl) (by kernel_rfl) (by kernel_rfl) (fun _ _ _ h => h) (Or.inl ⟨by rfl, ?yc29⟩) hS ?_
            case yc29 =>
              intro w hSw
              go_simp; all_goals (with_reducible rfl)
            simp only [Act.put, List.setIfInBounds_toArray, List.set_cons_zero, List.set_cons_succ]
            refine wpAnyH_done (by kernel_rfl) ?_ _
            have hT2 := hT1.below (drew_below w1)
            have hon2 := hon1.drew
            clear q2 q3 hT1 hon1
            generalize w1.drew = wd at *
            have hsh := Lib.hid (rdscale_any 1 h b off cc l ⟨pos, c, rh, false⟩ _ hT2 rfl hhf hl (by show 16777216 ≤ rh * 256 ^ 1; have : 8388608 ≤ rh := hhr; omega))
            go_wp2_with fail
            refine hsh.out.mono ?_
            rintro e w4 ⟨rfl, hE4, hon4⟩
            go_wp2_with fail
            go_roundw
            case rel => exact ⟨t + 1, by omega, by rw [HN.out]; exact congrArg (Value.int .u32) (by omega), congrArg (Value.int .i64) (by omega), by rw [HN.out]; exact hE4, hon2.trans hon4 (by simp)⟩
            case measure => simp [intOf] <;> omega
        · have hlt' : ¬ (t : Int) < m := by omega
          have HPL := Lib.hid (HPI.out (by omega))
          have hD2 := hD
          obtain ⟨x, y, _, hT⟩ := hD2
          have k4 := c54 hT.blk
          rw [hout] at k4
          clear HPI HN hT hout
          go_wp2_with fail
          go_ret
          exact ⟨by rw [HPL.out]; rfl, by rw [HPL.out]; exact hD, hon⟩

set_option maxRecDepth 100000 in
set_option maxHeartbeats 1000000 in
theorem rddone_any (h b off cc : Nat) (l : List UInt8) (s : Rd.St) (w : World) (hE : RDecIs w h b off cc l s) :
    Calls Try.prog 17 #[.pointer (some ⟨h, 0, none⟩)] w (Says w (s.done l)) := by
  obtain ⟨x, y, hxy, hT0⟩ := hE
  obtain ⟨pos, c, r, out⟩ := s
  have hT : RDecAt w h b off cc l x y pos out := hT0
  have k0 : w.drew.cell? ⟨h, 0, none⟩ = some (.slice (some ⟨b, off, none⟩) l.length cc) := c50 hT.blk
  have k1 : w.drew.cell? ⟨h, 1, none⟩ = some (.int .i64 (pos : Nat)) := c51 hT.blk
  have k2 : w.drew.cell? ⟨h, 2, none⟩ = some (.int .u64 (x : Nat)) := c52 hT.blk
  have k4 : w.drew.cell? ⟨h, 4, none⟩ = some (.bool out) := c54 hT.blk
  clear hT0
  cases out with
  | true =>
    rw [show Rd.St.done l ⟨pos, c, r, true⟩ = false from rfl]
    clear hxy
    generalize l.length = L at k0
    go_enter Try.func17, Try.ntmps17
    go_wp2_with fail
    refine wp_region_held_drew (S := fun w' => w'.cell? ⟨h, 0, none⟩ = some (.slice (some ⟨b, off, none⟩) L cc) ∧ w'.cell? ⟨h, 1, none⟩ = some (.int .i64 (pos : Nat)) ∧ w'.cell? ⟨h, 2, none⟩ = some (.int .u64 (x : Nat)) ∧ w'.cell? ⟨h, 4, none⟩ = some (.bool true)) (by kernel_rfl) ⟨k0, k1, k2, k4⟩ (fun hS => ?_)
    refine wpAnyH_take (i := 0) (oi := { dst := some 3, op := Op.move (Operand.tmp 0), type := 32, pos := "ref.go:81", after := #[], guard := none }) (v := ?ve30) rfl (by kernel_rfl) (by kernel_rfl) (by kernel_rfl) (fun _ _ _ h => h) (Or.inl ⟨by rfl, ?ye30⟩) hS ?_
    case ye30 =>
      intro w hSw
      go_simp; all_goals (with_reducible rfl)
    simp only [Act.put, List.setIfInBounds_toArray, List.set_cons_zero, List.set_cons_succ]
    refine wpAnyH_take (i := 1) (oi := { dst := some 4, op := Op.nilCheck (Operand.tmp 3), type := 0, pos := "ref.go:81", after := #[{ on := 0, ground := Ground.data }], guard := none }) (v := ?ve31) rfl (by kernel_rfl) (by kernel_rfl) (by kernel_rfl) (fun _ _ _ h => h) (Or.inl ⟨by rfl, ?ye31⟩) hS ?_
    case ye31 =>
      intro w hSw
      go_simp; all_goals (with_reducible rfl)
    simp only [Act.put, List.setIfInBounds_toArray, List.set_cons_zero, List.set_cons_succ]
    refine wpAnyH_take (i := 2) (oi := { dst := some 5, op := Op.fieldAddr 90 (Operand.tmp 4) 4, type := 0, pos := "ref.go:81", after := #[{ on := 1, ground := Ground.data }], guard := none }) (v := ?ve32) rfl (by kernel_rfl) (by kernel_rfl) (by kernel_rfl) (fun _ _ _ h => h) (Or.inl ⟨by rfl, ?ye32⟩) hS ?_
    case ye32 =>
      intro w hSw
      go_simp; all_goals (with_reducible rfl)
    simp only [Act.put, List.setIfInBounds_toArray, List.set_cons_zero, List.set_cons_succ]
    refine wpAnyH_take (i := 3) (oi := { dst := some 6, op := Op.load 4 (Operand.tmp 5), type := 4, pos := "ref.go:81", after := #[{ on := 2, ground := Ground.data }], guard := none }) (v := ?ve33) rfl (by kernel_rfl) (by kernel_rfl) (by kernel_rfl) (fun _ _ _ h => h) (Or.inl ⟨by rfl, ?ye33⟩) hS ?_
    case ye33 =>
      intro w hSw
      obtain ⟨j0, j1, j2, j4⟩ := hSw
      go_simp; all_goals (with_reducible rfl)
    simp only [Act.put, List.setIfInBounds_toArray, List.set_cons_zero, List.set_cons_succ]
    refine wpAnyH_take (i := 4) (oi := { dst := some 7, op := Op.unOp UnOp.not 4 (Operand.tmp 6), type := 4, pos := "ref.go:81", after := #[{ on := 3, ground := Ground.data }], guard := none }) (v := ?ve34) rfl (by kernel_rfl) (by kernel_rfl) (by kernel_rfl) (fun _ _ _ h => h) (Or.inl ⟨by rfl, ?ye34⟩) hS ?_
    case ye34 =>
      intro w hSw
      go_simp; all_goals (with_reducible rfl)
    simp only [Act.put, List.setIfInBounds_toArray, List.set_cons_zero, List.set_cons_succ]
    refine wpAnyH_take (i := 5) (oi := { dst := some 8, op := Op.move (Operand.tmp 7), type := 4, pos := "ref.go:81", after := #[{ on := 4, ground := Ground.data }], guard := none }) (v := ?ve35) rfl (by kernel_rfl) (by kernel_rfl) (by kernel_rfl) (fun _ _ _ h => h) (Or.inl ⟨by rfl, ?ye35⟩) hS ?_
    case ye35 =>
      intro w hSw
      go_simp; all_goals (with_reducible rfl)
    simp only [Act.put, List.setIfInBounds_toArray, List.set_cons_zero, List.set_cons_succ]
    refine wpAnyH_take (i := 6) (oi := { dst := some 9, op := Op.move (Operand.tmp 0), type := 32, pos := "ref.go:81", after := #[{ on := 5, ground := Ground.guard }], guard := some (5, true) }) (v := undef) rfl (by kernel_rfl) (by kernel_rfl) (by kernel_rfl) (fun _ _ _ h => h) (Or.inr ⟨by rfl, rfl⟩) hS ?_
    simp only [Act.put, List.setIfInBounds_toArray, List.set_cons_zero, List.set_cons_succ]
    refine wpAnyH_take (i := 7) (oi := { dst := some 10, op := Op.nilCheck (Operand.tmp 9), type := 0, pos := "ref.go:81", after := #[{ on := 6, ground := Ground.data }, { on := 5, ground := Ground.guard }], guard := some (5, true) }) (v := undef) rfl (by kernel_rfl) (by kernel_rfl) (by kernel_rfl) (fun _ _ _ h => h) (Or.inr ⟨by rfl, rfl⟩) hS ?_
    simp only [Act.put, List.setIfInBounds_toArray, List.set_cons_zero, List.set_cons_succ]
    refine wpAnyH_take (i := 8) (oi := { dst := some 11, op := Op.fieldAddr 90 (Operand.tmp 10) 1, type := 0, pos := "ref.go:81", after := #[{ on := 7, ground := Ground.data }, { on := 5, ground := Ground.guard }], guard := some (5, true) }) (v := undef) rfl (by kernel_rfl) (by kernel_rfl) (by kernel_rfl) (fun _ _ _ h => h) (Or.inr ⟨by rfl, rfl⟩) hS ?_
    simp only [Act.put, List.setIfInBounds_toArray, List.set_cons_zero, List.set_cons_succ]
    refine wpAnyH_take (i := 9) (oi := { dst := some 12, op := Op.load 3 (Operand.tmp 11), type := 3, pos := "ref.go:81", after := #[{ on := 8, ground := Ground.data }, { on := 5, ground := Ground.guard }], guard := some (5, true) }) (v := undef) rfl (by kernel_rfl) (by kernel_rfl) (by kernel_rfl) (fun _ _ _ h => h) (Or.inr ⟨by rfl, rfl⟩) hS ?_
    simp only [Act.put, List.setIfInBounds_toArray, List.set_cons_zero, List.set_cons_succ]
    refine wpAnyH_take (i := 10) (oi := { dst := some 13, op := Op.move (Operand.tmp 0), type := 32, pos := "ref.go:81", after := #[{ on := 5, ground := Ground.guard }], guard := some (5, true) }) (v := undef) rfl (by kernel_rfl) (by kernel_rfl) (by kernel_rfl) (fun _ _ _ h => h) (Or.inr ⟨by rfl, rfl⟩) hS ?_
    simp only [Act.put, List.setIfInBounds_toArray, List.set_cons_zero, List.set_cons_succ]
    refine wpAnyH_take (i := 11) (oi := { dst := some 14, op := Op.nilCheck (Operand.tmp 13), type := 0, pos := "ref.go:81", after := #[{ on := 10, ground := Ground.data }, { on := 5, ground := Ground.guard }], guard := some (5, true) }) (v := undef) rfl (by kernel_rfl) (by kernel_rfl) (by kernel_rfl) (fun _ _ _ h => h) (Or.inr ⟨by rfl, rfl⟩) hS ?_
    simp only [Act.put, List.setIfInBounds_toArray, List.set_cons_zero, List.set_cons_succ]
    refine wpAnyH_take (i := 12) (oi := { dst := some 15, op := Op.fieldAddr 90 (Operand.tmp 14) 0, type := 0, pos := "ref.go:81", after := #[{ on := 11, ground := Ground.data }, { on := 5, ground := Ground.guard }], guard := some (5, true) }) (v := undef) rfl (by kernel_rfl) (by kernel_rfl) (by kernel_rfl) (fun _ _ _ h => h) (Or.inr ⟨by rfl, rfl⟩) hS ?_
    simp only [Act.put, List.setIfInBounds_toArray, List.set_cons_zero, List.set_cons_succ]
    refine wpAnyH_take (i := 13) (oi := { dst := some 16, op := Op.load 22 (Operand.tmp 15), type := 22, pos := "ref.go:81", after := #[{ on := 12, ground := Ground.data }, { on := 5, ground := Ground.guard }], guard := some (5, true) }) (v := undef) rfl (by kernel_rfl) (by kernel_rfl) (by kernel_rfl) (fun _ _ _ h => h) (Or.inr ⟨by rfl, rfl⟩) hS ?_
    simp only [Act.put, List.setIfInBounds_toArray, List.set_cons_zero, List.set_cons_succ]
    refine wpAnyH_take (i := 14) (oi := { dst := some 17, op := Op.call { callee := Callee.builtin Builtin.len, args := #[Operand.tmp 16], argTypes := #[22] }, type := 3, pos := "ref.go:81", after := #[{ on := 13, ground := Ground.data }, { on := 5, ground := Ground.guard }], guard := some (5, true) }) (v := undef) rfl (by kernel_rfl) (by kernel_rfl) (by kernel_rfl) (fun _ _ _ h => h) (Or.inr ⟨by rfl, rfl⟩) hS ?_
    simp only [Act.put, List.setIfInBounds_toArray, List.set_cons_zero, List.set_cons_succ]
    refine wpAnyH_take (i := 15) (oi := { dst := some 18, op := Op.binOp BinOp.eql 3 (Operand.tmp 12) (Operand.tmp 17) 3, type := 4, pos := "ref.go:81", after := #[{ on := 9, ground := Ground.data }, { on := 14, ground := Ground.data }, { on := 5, ground := Ground.guard }], guard := some (5, true) }) (v := undef) rfl (by kernel_rfl) (by kernel_rfl) (by kernel_rfl) (fun _ _ _ h => h) (Or.inr ⟨by rfl, rfl⟩) hS ?_
    simp only [Act.put, List.setIfInBounds_toArray, List.set_cons_zero, List.set_cons_succ]
    refine wpAnyH_take (i := 16) (oi := { dst := some 19, op := Op.pick (Operand.tmp 8) (Operand.tmp 18) (Operand.const (Value.bool false)), type := 4, pos := "ref.go:81", after := #[{ on := 5, ground := Ground.data }, { on := 15, ground := Ground.data }], guard := none }) (v := ?ve46) rfl (by kernel_rfl) (by kernel_rfl) (by kernel_rfl) (fun _ _ _ h => h) (Or.inl ⟨by rfl, ?ye46⟩) hS ?_
    case ye46 =>
      intro w hSw
      go_simp; all_goals (with_reducible rfl)
    simp only [Act.put, List.setIfInBounds_toArray, List.set_cons_zero, List.set_cons_succ]
    refine wpAnyH_take (i := 17) (oi := { dst := some 20, op := Op.move (Operand.tmp 19), type := 4, pos := "ref.go:81", after := #[{ on := 16, ground := Ground.data }, { on := 5, ground := Ground.chain }], guard := none }) (v := ?ve47) rfl (by kernel_rfl) (by kernel_rfl) (by kernel_rfl) (fun _ _ _ h => h) (Or.inl ⟨by rfl, ?ye47⟩) hS ?_
    case ye47 =>
      intro w hSw
      go_simp; all_goals (with_reducible rfl)
    simp only [Act.put, List.setIfInBounds_toArray, List.set_cons_zero, List.set_cons_succ]
    refine wpAnyH_take (i := 18) (oi := { dst := some 21, op := Op.move (Operand.tmp 0), type := 32, pos := "ref.go:81", after := #[{ on := 17, ground := Ground.guard }], guard := some (17, true) }) (v := undef) rfl (by kernel_rfl) (by kernel_rfl) (by kernel_rfl) (fun _ _ _ h => h) (Or.inr ⟨by rfl, rfl⟩) hS ?_
    simp only [Act.put, List.setIfInBounds_toArray, List.set_cons_zero, List.set_cons_succ]
    refine wpAnyH_take (i := 19) (oi := { dst := some 22, op := Op.nilCheck (Operand.tmp 21), type := 0, pos := "ref.go:81", after := #[{ on := 18, ground := Ground.data }, { on := 17, ground := Ground.guard }], guard := some (17, true) }) (v := undef) rfl (by kernel_rfl) (by kernel_rfl) (by kernel_rfl) (fun _ _ _ h => h) (Or.inr ⟨by rfl, rfl⟩) hS ?_
    simp only [Act.put, List.setIfInBounds_toArray, List.set_cons_zero, List.set_cons_succ]
    refine wpAnyH_take (i := 20) (oi := { dst := some 23, op := Op.fieldAddr 90 (Operand.tmp 22) 2, type := 0, pos := "ref.go:81", after := #[{ on := 19, ground := Ground.data }, { on := 17, ground := Ground.guard }], guard := some (17, true) }) (v := undef) rfl (by kernel_rfl) (by kernel_rfl) (by kernel_rfl) (fun _ _ _ h => h) (Or.inr ⟨by rfl, rfl⟩) hS ?_
    simp only [Act.put, List.setIfInBounds_toArray, List.set_cons_zero, List.set_cons_succ]
    refine wpAnyH_take (i := 21) (oi := { dst := some 24, op := Op.load 88 (Operand.tmp 23), type := 88, pos := "ref.go:81", after := #[{ on := 20, ground := Ground.data }, { on := 17, ground := Ground.guard }], guard := some (17, true) }) (v := undef) rfl (by kernel_rfl) (by kernel_rfl) (by kernel_rfl) (fun _ _ _ h => h) (Or.inr ⟨by rfl, rfl⟩) hS ?_
    simp only [Act.put, List.setIfInBounds_toArray, List.set_cons_zero, List.set_cons_succ]
    refine wpAnyH_take (i := 22) (oi := { dst := some 25, op := Op.binOp BinOp.eql 88 (Operand.tmp 24) (Operand.const (Value.int IntKind.u64 0)) 88, type := 4, pos := "ref.go:81", after := #[{ on := 21, ground := Ground.data }, { on := 17, ground := Ground.guard }], guard := some (17, true) }) (v := undef) rfl (by kernel_rfl) (by kernel_rfl) (by kernel_rfl) (fun _ _ _ h => h) (Or.inr ⟨by rfl, rfl⟩) hS ?_
    simp only [Act.put, List.setIfInBounds_toArray, List.set_cons_zero, List.set_cons_succ]
    refine wpAnyH_take (i := 23) (oi := { dst := some 26, op := Op.pick (Operand.tmp 20) (Operand.tmp 25) (Operand.const (Value.bool false)), type := 4, pos := "ref.go:81", after := #[{ on := 17, ground := Ground.data }, { on := 22, ground := Ground.data }], guard := none }) (v := ?ve53) rfl (by kernel_rfl) (by kernel_rfl) (by kernel_rfl) (fun _ _ _ h => h) (Or.inl ⟨by rfl, ?ye53⟩) hS ?_
    case ye53 =>
      intro w hSw
      go_simp; all_goals (with_reducible rfl)
    simp only [Act.put, List.setIfInBounds_toArray, List.set_cons_zero, List.set_cons_succ]
    refine wpAnyH_take (i := 24) (oi := { dst := some 2, op := Op.assign (Operand.tmp 26), type := 4, pos := "ref.go:81", after := #[{ on := 23, ground := Ground.data }, { on := 17, ground := Ground.chain }, { on := 0, ground := Ground.phase }, { on := 1, ground := Ground.phase }, { on := 2, ground := Ground.phase }, { on := 3, ground := Ground.phase }, { on := 4, ground := Ground.phase }, { on := 5, ground := Ground.phase }, { on := 6, ground := Ground.phase }, { on := 7, ground := Ground.phase }, { on := 8, ground := Ground.phase }, { on := 9, ground := Ground.phase }, { on := 10, ground := Ground.phase }, { on := 11, ground := Ground.phase }, { on := 12, ground := Ground.phase }, { on := 13, ground := Ground.phase }, { on := 14, ground := Ground.phase }, { on := 15, ground := Ground.phase }, { on := 16, ground := Ground.phase }, { on := 17, ground := Ground.phase }, { on := 18, ground := Ground.phase }, { on := 19, ground := Ground.phase }, { on := 20, ground := Ground.phase }, { on := 21, ground := Ground.phase }, { on := 22, ground := Ground.phase }, { on := 23, ground := Ground.phase }], guard := none }) (v := ?ve54) rfl (by kernel_rfl) (by kernel_rfl) (by kernel_rfl) (fun _ _ _ h => h) (Or.inl ⟨by rfl, ?ye54⟩) hS ?_
    case ye54 =>
      intro w hSw
      go_simp; all_goals (with_reducible rfl)
    simp only [Act.put, List.setIfInBounds_toArray, List.set_cons_zero, List.set_cons_succ]
    refine wpAnyH_done (by kernel_rfl) ?_ _
    go_wp2_with fail
    go_ret
    exact ⟨rfl, (Below.refl _ _).drew⟩
  | false =>
    obtain rfl : c = x := (hxy rfl).1.symm
    have hd : Rd.St.done l ⟨pos, c, r, false⟩ = (pos == l.length && c == 0) := rfl
    rw [hd]
    clear hxy hd
    generalize l.length = L at k0 ⊢
    by_cases hp : pos = L
    · have hpi : ((pos : Int) == (L : Int)) = true := by simp [hp]
      by_cases hc : c = 0
      · have hci : ((c : Int) == 0) = true := by simp [hc]
        rw [show (pos == L && c == 0) = true by simp [hp, hc]]
        clear hp hc
        go_enter Try.func17, Try.ntmps17
        go_wp2_with fail
        refine wp_region_held_drew (S := fun w' => w'.cell? ⟨h, 0, none⟩ = some (.slice (some ⟨b, off, none⟩) L cc) ∧ w'.cell? ⟨h, 1, none⟩ = some (.int .i64 (pos : Nat)) ∧ w'.cell? ⟨h, 2, none⟩ = some (.int .u64 (c : Nat)) ∧ w'.cell? ⟨h, 4, none⟩ = some (.bool false)) (by kernel_rfl) ⟨k0, k1, k2, k4⟩ (fun hS => ?_)
        refine wpAnyH_take (i := 0) (oi := { dst := some 3, op := Op.move (Operand.tmp 0), type := 32, pos := "ref.go:81", after := #[], guard := none }) (v := ?vf55) rfl (by kernel_rfl) (by kernel_rfl) (by kernel_rfl) (fun _ _ _ h => h) (Or.inl ⟨by rfl, ?yf55⟩) hS ?_
        case yf55 =>
          intro w hSw
          go_simp; all_goals (with_reducible rfl)
        simp only [Act.put, List.setIfInBounds_toArray, List.set_cons_zero, List.set_cons_succ]
        refine wpAnyH_take (i := 1) (oi := { dst := some 4, op := Op.nilCheck (Operand.tmp 3), type := 0, pos := "ref.go:81", after := #[{ on := 0, ground := Ground.data }], guard := none }) (v := ?vf56) rfl (by kernel_rfl) (by kernel_rfl) (by kernel_rfl) (fun _ _ _ h => h) (Or.inl ⟨by rfl, ?yf56⟩) hS ?_
        case yf56 =>
          intro w hSw
          go_simp; all_goals (with_reducible rfl)
        simp only [Act.put, List.setIfInBounds_toArray, List.set_cons_zero, List.set_cons_succ]
        refine wpAnyH_take (i := 2) (oi := { dst := some 5, op := Op.fieldAddr 90 (Operand.tmp 4) 4, type := 0, pos := "ref.go:81", after := #[{ on := 1, ground := Ground.data }], guard := none }) (v := ?vf57) rfl (by kernel_rfl) (by kernel_rfl) (by kernel_rfl) (fun _ _ _ h => h) (Or.inl ⟨by rfl, ?yf57⟩) hS ?_
        case yf57 =>
          intro w hSw
          go_simp; all_goals (with_reducible rfl)
        simp only [Act.put, List.setIfInBounds_toArray, List.set_cons_zero, List.set_cons_succ]
        refine wpAnyH_take (i := 3) (oi := { dst := some 6, op := Op.load 4 (Operand.tmp 5), type := 4, pos := "ref.go:81", after := #[{ on := 2, ground := Ground.data }], guard := none }) (v := ?vf58) rfl (by kernel_rfl) (by kernel_rfl) (by kernel_rfl) (fun _ _ _ h => h) (Or.inl ⟨by rfl, ?yf58⟩) hS ?_
        case yf58 =>
          intro w hSw
          obtain ⟨j0, j1, j2, j4⟩ := hSw
          go_simp; all_goals (with_reducible rfl)
        simp only [Act.put, List.setIfInBounds_toArray, List.set_cons_zero, List.set_cons_succ]
        refine wpAnyH_take (i := 4) (oi := { dst := some 7, op := Op.unOp UnOp.not 4 (Operand.tmp 6), type := 4, pos := "ref.go:81", after := #[{ on := 3, ground := Ground.data }], guard := none }) (v := ?vf59) rfl (by kernel_rfl) (by kernel_rfl) (by kernel_rfl) (fun _ _ _ h => h) (Or.inl ⟨by rfl, ?yf59⟩) hS ?_
        case yf59 =>
          intro w hSw
          go_simp; all_goals (with_reducible rfl)
        simp only [Act.put, List.setIfInBounds_toArray, List.set_cons_zero, List.set_cons_succ]
        refine wpAnyH_take (i := 5) (oi := { dst := some 8, op := Op.move (Operand.tmp 7), type := 4, pos := "ref.go:81", after := #[{ on := 4, ground := Ground.data }], guard := none }) (v := ?vf60) rfl (by kernel_rfl) (by kernel_rfl) (by kernel_rfl) (fun _ _ _ h => h) (Or.inl ⟨by rfl, ?yf60⟩) hS ?_
        case yf60 =>
          intro w hSw
          go_simp; all_goals (with_reducible rfl)
        simp only [Act.put, List.setIfInBounds_toArray, List.set_cons_zero, List.set_cons_succ]
        refine wpAnyH_take (i := 6) (oi := { dst := some 9, op := Op.move (Operand.tmp 0), type := 32, pos := "ref.go:81", after := #[{ on := 5, ground := Ground.guard }], guard := some (5, true) }) (v := ?vf61) rfl (by kernel_rfl) (by kernel_rfl) (by kernel_rfl) (fun _ _ _ h => h) (Or.inl ⟨by rfl, ?yf61⟩) hS ?_
        case yf61 =>
          intro w hSw
          go_simp; all_goals (with_reducible rfl)
        simp only [Act.put, List.setIfInBounds_toArray, List.set_cons_zero, List.set_cons_succ]
        refine wpAnyH_take (i := 7) (oi := { dst := some 10, op := Op.nilCheck (Operand.tmp 9), type := 0, pos := "ref.go:81", after := #[{ on := 6, ground := Ground.data }, { on := 5, ground := Ground.guard }], guard := some (5, true) }) (v := ?vf62) rfl (by kernel_rfl) (by kernel_rfl) (by kernel_rfl) (fun _ _ _ h => h) (Or.inl ⟨by rfl, ?yf62⟩) hS ?_
        case yf62 =>
          intro w hSw
          go_simp; all_goals (with_reducible rfl)
        simp only [Act.put, List.setIfInBounds_toArray, List.set_cons_zero, List.set_cons_succ]
        refine wpAnyH_take (i := 8) (oi := { dst := some 11, op := Op.fieldAddr 90 (Operand.tmp 10) 1, type := 0, pos := "ref.go:81", after := #[{ on := 7, ground := Ground.data }, { on := 5, ground := Ground.guard }], guard := some (5, true) }) (v := ?vf63) rfl (by kernel_rfl) (by kernel_rfl) (by kernel_rfl) (fun _ _ _ h => h) (Or.inl ⟨by rfl, ?yf63⟩) hS ?_
        case yf63 =>
          intro w hSw
          go_simp; all_goals (with_reducible rfl)
        simp only [Act.put, List.setIfInBounds_toArray, List.set_cons_zero, List.set_cons_succ]
        refine wpAnyH_take (i := 9) (oi := { dst := some 12, op := Op.load 3 (Operand.tmp 11), type := 3, pos := "ref.go:81", after := #[{ on := 8, ground := Ground.data }, { on := 5, ground := Ground.guard }], guard := some (5, true) }) (v := ?vf64) rfl (by kernel_rfl) (by kernel_rfl) (by kernel_rfl) (fun _ _ _ h => h) (Or.inl ⟨by rfl, ?yf64⟩) hS ?_
        case yf64 =>
          intro w hSw
          obtain ⟨j0, j1, j2, j4⟩ := hSw
          go_simp; all_goals (with_reducible rfl)
        simp only [Act.put, List.setIfInBounds_toArray, List.set_cons_zero, List.set_cons_succ]
        refine wpAnyH_take (i := 10) (oi := { dst := some 13, op := Op.move (Operand.tmp 0), type := 32, pos := "ref.go:81", after := #[{ on := 5, ground := Ground.guard }], guard := some (5, true) }) (v := ?vf65) rfl (by kernel_rfl) (by kernel_rfl) (by kernel_rfl) (fun _ _ _ h => h) (Or.inl ⟨by rfl, ?yf65⟩) hS ?_
        case yf65 =>
          intro w hSw
          go_simp; all_goals (with_reducible rfl)
        simp only [Act.put, List.setIfInBounds_toArray, List.set_cons_zero, List.set_cons_succ]
        refine wpAnyH_take (i := 11) (oi := { dst := some 14, op := Op.nilCheck (Operand.tmp 13), type := 0, pos := "ref.go:81", after := #[{ on := 10, ground := Ground.data }, { on := 5, ground := Ground.guard }], guard := some (5, true) }) (v := ?vf66) rfl (by kernel_rfl) (by kernel_rfl) (by kernel_rfl) (fun _ _ _ h => h) (Or.inl ⟨by rfl, ?yf66⟩) hS ?_
        case yf66 =>
          intro w hSw
          go_simp; all_goals (with_reducible rfl)
        simp only [Act.put, List.setIfInBounds_toArray, List.set_cons_zero, List.set_cons_succ]
        refine wpAnyH_take (i := 12) (oi := { dst := some 15, op := Op.fieldAddr 90 (Operand.tmp 14) 0, type := 0, pos := "ref.go:81", after := #[{ on := 11, ground := Ground.data }, { on := 5, ground := Ground.guard }], guard := some (5, true) }) (v := ?vf67) rfl (by kernel_rfl) (by kernel_rfl) (by kernel_rfl) (fun _ _ _ h => h) (Or.inl ⟨by rfl, ?yf67⟩) hS ?_
        case yf67 =>
          intro w hSw
          go_simp; all_goals (with_reducible rfl)
        simp only [Act.put, List.setIfInBounds_toArray, List.set_cons_zero, List.set_cons_succ]
        refine wpAnyH_take (i := 13) (oi := { dst := some 16, op := Op.load 22 (Operand.tmp 15), type := 22, pos := "ref.go:81", after := #[{ on := 12, ground := Ground.data }, { on := 5, ground := Ground.guard }], guard := some (5, true) }) (v := ?vf68) rfl (by kernel_rfl) (by kernel_rfl) (by kernel_rfl) (fun _ _ _ h => h) (Or.inl ⟨by rfl, ?yf68⟩) hS ?_
        case yf68 =>
          intro w hSw
          obtain ⟨j0, j1, j2, j4⟩ := hSw
          go_simp; all_goals (with_reducible rfl)
        simp only [Act.put, List.setIfInBounds_toArray, List.set_cons_zero, List.set_cons_succ]
        refine wpAnyH_take (i := 14) (oi := { dst := some 17, op := Op.call { callee := Callee.builtin Builtin.len, args := #[Operand.tmp 16], argTypes := #[22] }, type := 3, pos := "ref.go:81", after := #[{ on := 13, ground := Ground.data }, { on := 5, ground := Ground.guard }], guard := some (5, true) }) (v := ?vf69) rfl (by kernel_rfl) (by kernel_rfl) (by kernel_rfl) (fun _ _ _ h => h) (Or.inl ⟨by rfl, ?yf69⟩) hS ?_
        case yf69 =>
          intro w hSw
          go_simp; all_goals (with_reducible rfl)
        simp only [Act.put, List.setIfInBounds_toArray, List.set_cons_zero, List.set_cons_succ]
        refine wpAnyH_take (i := 15) (oi := { dst := some 18, op := Op.binOp BinOp.eql 3 (Operand.tmp 12) (Operand.tmp 17) 3, type := 4, pos := "ref.go:81", after := #[{ on := 9, ground := Ground.data }, { on := 14, ground := Ground.data }, { on := 5, ground := Ground.guard }], guard := some (5, true) }) (v := ?vf70) rfl (by kernel_rfl) (by kernel_rfl) (by kernel_rfl) (fun _ _ _ h => h) (Or.inl ⟨by rfl, ?yf70⟩) hS ?_
        case yf70 =>
          intro w hSw
          go_simp; all_goals (with_reducible rfl)
        simp only [Act.put, List.setIfInBounds_toArray, List.set_cons_zero, List.set_cons_succ]
        refine wpAnyH_take (i := 16) (oi := { dst := some 19, op := Op.pick (Operand.tmp 8) (Operand.tmp 18) (Operand.const (Value.bool false)), type := 4, pos := "ref.go:81", after := #[{ on := 5, ground := Ground.data }, { on := 15, ground := Ground.data }], guard := none }) (v := ?vf71) rfl (by kernel_rfl) (by kernel_rfl) (by kernel_rfl) (fun _ _ _ h => h) (Or.inl ⟨by rfl, ?yf71⟩) hS ?_
        case yf71 =>
          intro w hSw
          go_simp; all_goals (with_reducible rfl)
        simp only [Act.put, List.setIfInBounds_toArray, List.set_cons_zero, List.set_cons_succ]
        refine wpAnyH_take (i := 17) (oi := { dst := some 20, op := Op.move (Operand.tmp 19), type := 4, pos := "ref.go:81", after := #[{ on := 16, ground := Ground.data }, { on := 5, ground := Ground.chain }], guard := none }) (v := ?vf72) rfl (by kernel_rfl) (by kernel_rfl) (by kernel_rfl) (fun _ _ _ h => h) (Or.inl ⟨by rfl, ?yf72⟩) hS ?_
        case yf72 =>
          intro w hSw
          go_simp; all_goals (with_reducible rfl)
        simp only [Act.put, List.setIfInBounds_toArray, List.set_cons_zero, List.set_cons_succ]
        refine wpAnyH_take (i := 18) (oi := { dst := some 21, op := Op.move (Operand.tmp 0), type := 32, pos := "ref.go:81", after := #[{ on := 17, ground := Ground.guard }], guard := some (17, true) }) (v := ?vf73) rfl (by kernel_rfl) (by kernel_rfl) (by kernel_rfl) (fun _ _ _ h => h) (Or.inl ⟨by rfl, ?yf73⟩) hS ?_
        case yf73 =>
          intro w hSw
          go_simp; all_goals (with_reducible rfl)
        simp only [Act.put, List.setIfInBounds_toArray, List.set_cons_zero, List.set_cons_succ]
        refine wpAnyH_take (i := 19) (oi := { dst := some 22, op := Op.nilCheck (Operand.tmp 21), type := 0, pos := "ref.go:81", after := #[{ on := 18, ground := Ground.data }, { on := 17, ground := Ground.guard }], guard := some (17, true) }) (v := ?vf74) rfl (by kernel_rfl) (by kernel_rfl) (by kernel_rfl) (fun _ _ _ h => h) (Or.inl ⟨by rfl, ?yf74⟩) hS ?_
        case yf74 =>
          intro w hSw
          go_simp; all_goals (with_reducible rfl)
        simp only [Act.put, List.setIfInBounds_toArray, List.set_cons_zero, List.set_cons_succ]
        refine wpAnyH_take (i := 20) (oi := { dst := some 23, op := Op.fieldAddr 90 (Operand.tmp 22) 2, type := 0, pos := "ref.go:81", after := #[{ on := 19, ground := Ground.data }, { on := 17, ground := Ground.guard }], guard := some (17, true) }) (v := ?vf75) rfl (by kernel_rfl) (by kernel_rfl) (by kernel_rfl) (fun _ _ _ h => h) (Or.inl ⟨by rfl, ?yf75⟩) hS ?_
        case yf75 =>
          intro w hSw
          go_simp; all_goals (with_reducible rfl)
        simp only [Act.put, List.setIfInBounds_toArray, List.set_cons_zero, List.set_cons_succ]
        refine wpAnyH_take (i := 21) (oi := { dst := some 24, op := Op.load 88 (Operand.tmp 23), type := 88, pos := "ref.go:81", after := #[{ on := 20, ground := Ground.data }, { on := 17, ground := Ground.guard }], guard := some (17, true) }) (v := ?vf76) rfl (by kernel_rfl) (by kernel_rfl) (by kernel_rfl) (fun _ _ _ h => h) (Or.inl ⟨by rfl, ?yf76⟩) hS ?_
        case yf76 =>
          intro w hSw
          obtain ⟨j0, j1, j2, j4⟩ := hSw
          go_simp; all_goals (with_reducible rfl)
        simp only [Act.put, List.setIfInBounds_toArray, List.set_cons_zero, List.set_cons_succ]
        refine wpAnyH_take (i := 22) (oi := { dst := some 25, op := Op.binOp BinOp.eql 88 (Operand.tmp 24) (Operand.const (Value.int IntKind.u64 0)) 88, type := 4, pos := "ref.go:81", after := #[{ on := 21, ground := Ground.data }, { on := 17, ground := Ground.guard }], guard := some (17, true) }) (v := ?vf77) rfl (by kernel_rfl) (by kernel_rfl) (by kernel_rfl) (fun _ _ _ h => h) (Or.inl ⟨by rfl, ?yf77⟩) hS ?_
        case yf77 =>
          intro w hSw
          go_simp; all_goals (with_reducible rfl)
        simp only [Act.put, List.setIfInBounds_toArray, List.set_cons_zero, List.set_cons_succ]
        refine wpAnyH_take (i := 23) (oi := { dst := some 26, op := Op.pick (Operand.tmp 20) (Operand.tmp 25) (Operand.const (Value.bool false)), type := 4, pos := "ref.go:81", after := #[{ on := 17, ground := Ground.data }, { on := 22, ground := Ground.data }], guard := none }) (v := ?vf78) rfl (by kernel_rfl) (by kernel_rfl) (by kernel_rfl) (fun _ _ _ h => h) (Or.inl ⟨by rfl, ?yf78⟩) hS ?_
        case yf78 =>
          intro w hSw
          go_simp; all_goals (with_reducible rfl)
        simp only [Act.put, List.setIfInBounds_toArray, List.set_cons_zero, List.set_cons_succ]
        refine wpAnyH_take (i := 24) (oi := { dst := some 2, op := Op.assign (Operand.tmp 26), type := 4, pos := "ref.go:81", after := #[{ on := 23, ground := Ground.data }, { on := 17, ground := Ground.chain }, { on := 0, ground := Ground.phase }, { on := 1, ground := Ground.phase }, { on := 2, ground := Ground.phase }, { on := 3, ground := Ground.phase }, { on := 4, ground := Ground.phase }, { on := 5, ground := Ground.phase }, { on := 6, ground := Ground.phase }, { on := 7, ground := Ground.phase }, { on := 8, ground := Ground.phase }, { on := 9, ground := Ground.phase }, { on := 10, ground := Ground.phase }, { on := 11, ground := Ground.phase }, { on := 12, ground := Ground.phase }, { on := 13, ground := Ground.phase }, { on := 14, ground := Ground.phase }, { on := 15, ground := Ground.phase }, { on := 16, ground := Ground.phase }, { on := 17, ground := Ground.phase }, { on := 18, ground := Ground.phase }, { on := 19, ground := Ground.phase }, { on := 20, ground := Ground.phase }, { on := 21, ground := Ground.phase }, { on := 22, ground := Ground.phase }, { on := 23, ground := Ground.phase }], guard := none }) (v := ?vf79) rfl (by kernel_rfl) (by kernel_rfl) (by kernel_rfl) (fun _ _ _ h => h) (Or.inl ⟨by rfl, ?yf79⟩) hS ?_
        case yf79 =>
          intro w hSw
          go_simp; all_goals (with_reducible rfl)
        simp only [Act.put, List.setIfInBounds_toArray, List.set_cons_zero, List.set_cons_succ]
        refine wpAnyH_done (by kernel_rfl) ?_ _
        go_wp2_with fail
        go_ret
        exact ⟨rfl, (Below.refl _ _).drew⟩
      · have hci : ((c : Int) == 0) = false := beq_eq_false_iff_ne.2 (by omega)
        rw [show (pos == L && c == 0) = false by simp [hc]]
        clear hp hc
        go_enter Try.func17, Try.ntmps17
        go_wp2_with fail
        refine wp_region_held_drew (S := fun w' => w'.cell? ⟨h, 0, none⟩ = some (.slice (some ⟨b, off, none⟩) L cc) ∧ w'.cell? ⟨h, 1, none⟩ = some (.int .i64 (pos : Nat)) ∧ w'.cell? ⟨h, 2, none⟩ = some (.int .u64 (c : Nat)) ∧ w'.cell? ⟨h, 4, none⟩ = some (.bool false)) (by kernel_rfl) ⟨k0, k1, k2, k4⟩ (fun hS => ?_)
        refine wpAnyH_take (i := 0) (oi := { dst := some 3, op := Op.move (Operand.tmp 0), type := 32, pos := "ref.go:81", after := #[], guard := none }) (v := ?vg80) rfl (by kernel_rfl) (by kernel_rfl) (by kernel_rfl) (fun _ _ _ h => h) (Or.inl ⟨by rfl, ?yg80⟩) hS ?_
        case yg80 =>
          intro w hSw
          go_simp; all_goals (with_reducible rfl)
        simp only [Act.put, List.setIfInBounds_toArray, List.set_cons_zero, List.set_cons_succ]
        refine wpAnyH_take (i := 1) (oi := { dst := some 4, op := Op.nilCheck (Operand.tmp 3), type := 0, pos := "ref.go:81", after := #[{ on := 0, ground := Ground.data }], guard := none }) (v := ?vg81) rfl (by kernel_rfl) (by kernel_rfl) (by kernel_rfl) (fun _ _ _ h => h) (Or.inl ⟨by rfl, ?yg81⟩) hS ?_
        case yg81 =>
          intro w hSw
          go_simp; all_goals (with_reducible rfl)
        simp only [Act.put, List.setIfInBounds_toArray, List.set_cons_zero, List.set_cons_succ]
        refine wpAnyH_take (i := 2) (oi := { dst := some 5, op := Op.fieldAddr 90 (Operand.tmp 4) 4, type := 0, pos := "ref.go:81", after := #[{ on := 1, ground := Ground.data }], guard := none }) (v := ?vg82) rfl (by kernel_rfl) (by kernel_rfl) (by kernel_rfl) (fun _ _ _ h => h) (Or.inl ⟨by rfl, ?yg82⟩) hS ?_
        case yg82 =>
          intro w hSw
          go_simp; all_goals (with_reducible rfl)
        simp only [Act.put, List.setIfInBounds_toArray, List.set_cons_zero, List.set_cons_succ]
        refine wpAnyH_take (i := 3) (oi := { dst := some 6, op := Op.load 4 (Operand.tmp 5), type := 4, pos := "ref.go:81", after := #[{ on := 2, ground := Ground.data }], guard := none }) (v := ?vg83) rfl (by kernel_rfl) (by kernel_rfl) (by kernel_rfl) (fun _ _ _ h => h) (Or.inl ⟨by rfl, ?yg83⟩) hS ?_
        case yg83 =>
          intro w hSw
          obtain ⟨j0, j1, j2, j4⟩ := hSw
          go_simp; all_goals (with_reducible rfl)
        simp only [Act.put, List.setIfInBounds_toArray, List.set_cons_zero, List.set_cons_succ]
        refine wpAnyH_take (i := 4) (oi := { dst := some 7, op := Op.unOp UnOp.not 4 (Operand.tmp 6), type := 4, pos := "ref.go:81", after := #[{ on := 3, ground := Ground.data }], guard := none }) (v := ?vg84) rfl (by kernel_rfl) (by kernel_rfl) (by kernel_rfl) (fun _ _ _ h => h) (Or.inl ⟨by rfl, ?yg84⟩) hS ?_
        case yg84 =>
          intro w hSw
          go_simp; all_goals (with_reducible rfl)
        simp only [Act.put, List.setIfInBounds_toArray, List.set_cons_zero, List.set_cons_succ]
        refine wpAnyH_take (i := 5) (oi := { dst := some 8, op := Op.move (Operand.tmp 7), type := 4, pos := "ref.go:81", after := #[{ on := 4, ground := Ground.data }], guard := none }) (v := ?vg85) rfl (by kernel_rfl) (by kernel_rfl) (by kernel_rfl) (fun _ _ _ h => h) (Or.inl ⟨by rfl, ?yg85⟩) hS ?_
        case yg85 =>
          intro w hSw
          go_simp; all_goals (with_reducible rfl)
        simp only [Act.put, List.setIfInBounds_toArray, List.set_cons_zero, List.set_cons_succ]
        refine wpAnyH_take (i := 6) (oi := { dst := some 9, op := Op.move (Operand.tmp 0), type := 32, pos := "ref.go:81", after := #[{ on := 5, ground := Ground.guard }], guard := some (5, true) }) (v := ?vg86) rfl (by kernel_rfl) (by kernel_rfl) (by kernel_rfl) (fun _ _ _ h => h) (Or.inl ⟨by rfl, ?yg86⟩) hS ?_
        case yg86 =>
          intro w hSw
          go_simp; all_goals (with_reducible rfl)
        simp only [Act.put, List.setIfInBounds_toArray, List.set_cons_zero, List.set_cons_succ]
        refine wpAnyH_take (i := 7) (oi := { dst := some 10, op := Op.nilCheck (Operand.tmp 9), type := 0, pos := "ref.go:81", after := #[{ on := 6, ground := Ground.data }, { on := 5, ground := Ground.guard }], guard := some (5, true) }) (v := ?vg87) rfl (by kernel_rfl) (by kernel_rfl) (by kernel_rfl) (fun _ _ _ h => h) (Or.inl ⟨by rfl, ?yg87⟩) hS ?_
        case yg87 =>
          intro w hSw
          go_simp; all_goals (with_reducible rfl)
        simp only [Act.put, List.setIfInBounds_toArray, List.set_cons_zero, List.set_cons_succ]
        refine wpAnyH_take (i := 8) (oi := { dst := some 11, op := Op.fieldAddr 90 (Operand.tmp 10) 1, type := 0, pos := "ref.go:81", after := #[{ on := 7, ground := Ground.data }, { on := 5, ground := Ground.guard }], guard := some (5, true) }) (v := ?vg88) rfl (by kernel_rfl) (by kernel_rfl) (by kernel_rfl) (fun _ _ _ h => h) (Or.inl ⟨by rfl, ?yg88⟩) hS ?_
        case yg88 =>
          intro w hSw
          go_simp; all_goals (with_reducible rfl)
        simp only [Act.put, List.setIfInBounds_toArray, List.set_cons_zero, List.set_cons_succ]
        refine wpAnyH_take (i := 9) (oi := { dst := some 12, op := Op.load 3 (Operand.tmp 11), type := 3, pos := "ref.go:81", after := #[{ on := 8, ground := Ground.data }, { on := 5, ground := Ground.guard }], guard := some (5, true) }) (v := ?vg89) rfl (by kernel_rfl) (by kernel_rfl) (by kernel_rfl) (fun _ _ _ h => h) (Or.inl ⟨by rfl, ?yg89⟩) hS ?_
        case yg89 =>
          intro w hSw
          obtain ⟨j0, j1, j2, j4⟩ := hSw
          go_simp; all_goals (with_reducible rfl)
        simp only [Act.put, List.setIfInBounds_toArray, List.set_cons_zero, List.set_cons_succ]
        refine wpAnyH_take (i := 10) (oi := { dst := some 13, op := Op.move (Operand.tmp 0), type := 32, pos := "ref.go:81", after := #[{ on := 5, ground := Ground.guard }], guard := some (5, true) }) (v := ?vg90) rfl (by kernel_rfl) (by kernel_rfl) (by kernel_rfl) (fun _ _ _ h => h) (Or.inl ⟨by rfl, ?yg90⟩) hS ?_
        case yg90 =>
          intro w hSw
          go_simp; all_goals (with_reducible rfl)
        simp only [Act.put, List.setIfInBounds_toArray, List.set_cons_zero, List.set_cons_succ]
        refine wpAnyH_take (i := 11) (oi := { dst := some 14, op := Op.nilCheck (Operand.tmp 13), type := 0, pos := "ref.go:81", after := #[{ on := 10, ground := Ground.data }, { on := 5, ground := Ground.guard }], guard := some (5, true) }) (v := ?vg91) rfl (by kernel_rfl) (by kernel_rfl) (by kernel_rfl) (fun _ _ _ h => h) (Or.inl ⟨by rfl, ?yg91⟩) hS ?_
        case yg91 =>
          intro w hSw
          go_simp; all_goals (with_reducible rfl)
        simp only [Act.put, List.setIfInBounds_toArray, List.set_cons_zero, List.set_cons_succ]
        refine wpAnyH_take (i := 12) (oi := { dst := some 15, op := Op.fieldAddr 90 (Operand.tmp 14) 0, type := 0, pos := "ref.go:81", after := #[{ on := 11, ground := Ground.data }, { on := 5, ground := Ground.guard }], guard := some (5, true) }) (v := ?vg92) rfl (by kernel_rfl) (by kernel_rfl) (by kernel_rfl) (fun _ _ _ h => h) (Or.inl ⟨by rfl, ?yg92⟩) hS ?_
        case yg92 =>
          intro w hSw
          go_simp; all_goals (with_reducible rfl)
        simp only [Act.put, List.setIfInBounds_toArray, List.set_cons_zero, List.set_cons_succ]
        refine wpAnyH_take (i := 13) (oi := { dst := some 16, op := Op.load 22 (Operand.tmp 15), type := 22, pos := "ref.go:81", after := #[{ on := 12, ground := Ground.data }, { on := 5, ground := Ground.guard }], guard := some (5, true) }) (v := ?vg93) rfl (by kernel_rfl) (by kernel_rfl) (by kernel_rfl) (fun _ _ _ h => h) (Or.inl ⟨by rfl, ?yg93⟩) hS ?_
        case yg93 =>
          intro w hSw
          obtain ⟨j0, j1, j2, j4⟩ := hSw
          go_simp; all_goals (with_reducible rfl)
        simp only [Act.put, List.setIfInBounds_toArray, List.set_cons_zero, List.set_cons_succ]
        refine wpAnyH_take (i := 14) (oi := { dst := some 17, op := Op.call { callee := Callee.builtin Builtin.len, args := #[Operand.tmp 16], argTypes := #[22] }, type := 3, pos := "ref.go:81", after := #[{ on := 13, ground := Ground.data }, { on := 5, ground := Ground.guard }], guard := some (5, true) }) (v := ?vg94) rfl (by kernel_rfl) (by kernel_rfl) (by kernel_rfl) (fun _ _ _ h => h) (Or.inl ⟨by rfl, ?yg94⟩) hS ?_
        case yg94 =>
          intro w hSw
          go_simp; all_goals (with_reducible rfl)
        simp only [Act.put, List.setIfInBounds_toArray, List.set_cons_zero, List.set_cons_succ]
        refine wpAnyH_take (i := 15) (oi := { dst := some 18, op := Op.binOp BinOp.eql 3 (Operand.tmp 12) (Operand.tmp 17) 3, type := 4, pos := "ref.go:81", after := #[{ on := 9, ground := Ground.data }, { on := 14, ground := Ground.data }, { on := 5, ground := Ground.guard }], guard := some (5, true) }) (v := ?vg95) rfl (by kernel_rfl) (by kernel_rfl) (by kernel_rfl) (fun _ _ _ h => h) (Or.inl ⟨by rfl, ?yg95⟩) hS ?_
        case yg95 =>
          intro w hSw
          go_simp; all_goals (with_reducible rfl)
        simp only [Act.put, List.setIfInBounds_toArray, List.set_cons_zero, List.set_cons_succ]
        refine wpAnyH_take (i := 16) (oi := { dst := some 19, op := Op.pick (Operand.tmp 8) (Operand.tmp 18) (Operand.const (Value.bool false)), type := 4, pos := "ref.go:81", after := #[{ on := 5, ground := Ground.data }, { on := 15, ground := Ground.data }], guard := none }) (v := ?vg96) rfl (by kernel_rfl) (by kernel_rfl) (by kernel_rfl) (fun _ _ _ h => h) (Or.inl ⟨by rfl, ?yg96⟩) hS ?_
        case yg96 =>
          intro w hSw
          go_simp; all_goals (with_reducible rfl)
        simp only [Act.put, List.setIfInBounds_toArray, List.set_cons_zero, List.set_cons_succ]
        refine wpAnyH_take (i := 17) (oi := { dst := some 20, op := Op.move (Operand.tmp 19), type := 4, pos := "ref.go:81", after := #[{ on := 16, ground := Ground.data }, { on := 5, ground := Ground.chain }], guard := none }) (v := ?vg97) rfl (by kernel_rfl) (by kernel_rfl) (by kernel_rfl) (fun _ _ _ h => h) (Or.inl ⟨by rfl, ?yg97⟩) hS ?_
        case yg97 =>
          intro w hSw
          go_simp; all_goals (with_reducible rfl)
        simp only [Act.put, List.setIfInBounds_toArray, List.set_cons_zero, List.set_cons_succ]
        refine wpAnyH_take (i := 18) (oi := { dst := some 21, op := Op.move (Operand.tmp 0), type := 32, pos := "ref.go:81", after := #[{ on := 17, ground := Ground.guard }], guard := some (17, true) }) (v := ?vg98) rfl (by kernel_rfl) (by kernel_rfl) (by kernel_rfl) (fun _ _ _ h => h) (Or.inl ⟨by rfl, ?yg98⟩) hS ?_
        case yg98 =>
          intro w hSw
          go_simp; all_goals (with_reducible rfl)
        simp only [Act.put, List.setIfInBounds_toArray, List.set_cons_zero, List.set_cons_succ]
        refine wpAnyH_take (i := 19) (oi := { dst := some 22, op := Op.nilCheck (Operand.tmp 21), type := 0, pos := "ref.go:81", after := #[{ on := 18, ground := Ground.data }, { on := 17, ground := Ground.guard }], guard := some (17, true) }) (v := ?vg99) rfl (by kernel_rfl) (by kernel_rfl) (by kernel_rfl) (fun _ _ _ h => h) (Or.inl ⟨by rfl, ?yg99⟩) hS ?_
        case yg99 =>
          intro w hSw
          go_simp; all_goals (with_reducible rfl)
        simp only [Act.put, List.setIfInBounds_toArray, List.set_cons_zero, List.set_cons_succ]
        refine wpAnyH_take (i := 20) (oi := { dst := some 23, op := Op.fieldAddr 90 (Operand.tmp 22) 2, type := 0, pos := "ref.go:81", after := #[{ on := 19, ground := Ground.data }, { on := 17, ground := Ground.guard }], guard := some (17, true) }) (v := ?vg100) rfl (by kernel_rfl) (by kernel_rfl) (by kernel_rfl) (fun _ _ _ h => h) (Or.inl ⟨by rfl, ?yg100⟩) hS ?_
        case yg100 =>
          intro w hSw
          go_simp; all_goals (with_reducible rfl)
        simp only [Act.put, List.setIfInBounds_toArray, List.set_cons_zero, List.set_cons_succ]
        refine wpAnyH_take (i := 21) (oi := { dst := some 24, op := Op.load 88 (Operand.tmp 23), type := 88, pos := "ref.go:81", after := #[{ on := 20, ground := Ground.data }, { on := 17, ground := Ground.guard }], guard := some (17, true) }) (v := ?vg101) rfl (by kernel_rfl) (by kernel_rfl) (by kernel_rfl) (fun _ _ _ h => h) (Or.inl ⟨by rfl, ?yg101⟩) hS ?_
        case yg101 =>
          intro w hSw
          obtain ⟨j0, j1, j2, j4⟩ := hSw
          go_simp; all_goals (with_reducible rfl)
        simp only [Act.put, List.setIfInBounds_toArray, List.set_cons_zero, List.set_cons_succ]
        refine wpAnyH_take (i := 22) (oi := { dst := some 25, op := Op.binOp BinOp.eql 88 (Operand.tmp 24) (Operand.const (Value.int IntKind.u64 0)) 88, type := 4, pos := "ref.go:81", after := #[{ on := 21, ground := Ground.data }, { on := 17, ground := Ground.guard }], guard := some (17, true) }) (v := ?vg102) rfl (by kernel_rfl) (by kernel_rfl) (by kernel_rfl) (fun _ _ _ h => h) (Or.inl ⟨by rfl, ?yg102⟩) hS ?_
        case yg102 =>
          intro w hSw
          go_simp; all_goals (with_reducible rfl)
        simp only [Act.put, List.setIfInBounds_toArray, List.set_cons_zero, List.set_cons_succ]
        refine wpAnyH_take (i := 23) (oi := { dst := some 26, op := Op.pick (Operand.tmp 20) (Operand.tmp 25) (Operand.const (Value.bool false)), type := 4, pos := "ref.go:81", after := #[{ on := 17, ground := Ground.data }, { on := 22, ground := Ground.data }], guard := none }) (v := ?vg103) rfl (by kernel_rfl) (by kernel_rfl) (by kernel_rfl) (fun _ _ _ h => h) (Or.inl ⟨by rfl, ?yg103⟩) hS ?_
        case yg103 =>
          intro w hSw
          go_simp; all_goals (with_reducible rfl)
        simp only [Act.put, List.setIfInBounds_toArray, List.set_cons_zero, List.set_cons_succ]
        refine wpAnyH_take (i := 24) (oi := { dst := some 2, op := Op.assign (Operand.tmp 26), type := 4, pos := "ref.go:81", after := #[{ on := 23, ground := Ground.data }, { on := 17, ground := Ground.chain }, { on := 0, ground := Ground.phase }, { on := 1, ground := Ground.phase }, { on := 2, ground := Ground.phase }, { on := 3, ground := Ground.phase }, { on := 4, ground := Ground.phase }, { on := 5, ground := Ground.phase }, { on := 6, ground := Ground.phase }, { on := 7, ground := Ground.phase }, { on := 8, ground := Ground.phase }, { on := 9, ground := Ground.phase }, { on := 10, ground := Ground.phase }, { on := 11, ground := Ground.phase }, { on := 12, ground := Ground.phase }, { on := 13, ground := Ground.phase }, { on := 14, ground := Ground.phase }, { on := 15, ground := Ground.phase }, { on := 16, ground := Ground.phase }, { on := 17, ground := Ground.phase }, { on := 18, ground := Ground.phase }, { on := 19, ground := Ground.phase }, { on := 20, ground := Ground.phase }, { on := 21, ground := Ground.phase }, { on := 22, ground := Ground.phase }, { on := 23, ground := Ground.phase }], guard := none }) (v := ?vg104) rfl (by kernel_rfl) (by kernel_rfl) (by kernel_rfl) (fun _ _ _ h => h) (Or.inl ⟨by rfl, ?yg104⟩) hS ?_
        case yg104 =>
          intro w hSw
          go_simp; all_goals (with_reducible rfl)
        simp only [Act.put, List.setIfInBounds_toArray, List.set_cons_zero, List.set_cons_succ]
        refine wpAnyH_done (by kernel_rfl) ?_ _
        go_wp2_with fail
        go_ret
        exact ⟨rfl, (Below.refl _ _).drew⟩
    · have hpi : ((pos : Int) == (L : Int)) = false := beq_eq_false_iff_ne.2 (by omega)
      rw [show (pos == L && c == 0) = false by simp [hp]]
      clear hp
      go_enter Try.func17, Try.ntmps17
      go_wp2_with fail
      refine wp_region_held_drew (S := fun w' => w'.cell? ⟨h, 0, none⟩ = some (.slice (some ⟨b, off, none⟩) L cc) ∧ w'.cell? ⟨h, 1, none⟩ = some (.int .i64 (pos : Nat)) ∧ w'.cell? ⟨h, 2, none⟩ = some (.int .u64 (c : Nat)) ∧ w'.cell? ⟨h, 4, none⟩ = some (.bool false)) (by kernel_rfl) ⟨k0, k1, k2, k4⟩ (fun hS => ?_)
      refine wpAnyH_take (i := 0) (oi := { dst := some 3, op := Op.move (Operand.tmp 0), type := 32, pos := "ref.go:81", after := #[], guard := none }) (v := ?vh105) rfl (by kernel_rfl) (by kernel_rfl) (by kernel_rfl) (fun _ _ _ h => h) (Or.inl ⟨by rfl, ?yh105⟩) hS ?_
      case yh105 =>
        intro w hSw
        go_simp; all_goals (with_reducible rfl)
      simp only [Act.put, List.setIfInBounds_toArray, List.set_cons_zero, List.set_cons_succ]
      refine wpAnyH_take (i := 1) (oi := { dst := some 4, op := Op.nilCheck (Operand.tmp 3), type := 0, pos := "ref.go:81", after := #[{ on := 0, ground := Ground.data }], guard := none }) (v := ?vh106) rfl (by kernel_rfl) (by kernel_rfl) (by kernel_rfl) (fun _ _ _ h => h) (Or.inl ⟨by rfl, ?yh106⟩) hS ?_
      case yh106 =>
        intro w hSw
        go_simp; all_goals (with_reducible rfl)
      simp only [Act.put, List.setIfInBounds_toArray, List.set_cons_zero, List.set_cons_succ]
      refine wpAnyH_take (i := 2) (oi := { dst := some 5, op := Op.fieldAddr 90 (Operand.tmp 4) 4, type := 0, pos := "ref.go:81", after := #[{ on := 1, ground := Ground.data }], guard := none }) (v := ?vh107) rfl (by kernel_rfl) (by kernel_rfl) (by kernel_rfl) (fun _ _ _ h => h) (Or.inl ⟨by rfl, ?yh107⟩) hS ?_
      case yh107 =>
        intro w hSw
        go_simp; all_goals (with_reducible rfl)
      simp only [Act.put, List.setIfInBounds_toArray, List.set_cons_zero, List.set_cons_succ]
      refine wpAnyH_take (i := 3) (oi := { dst := some 6, op := Op.load 4 (Operand.tmp 5), type := 4, pos := "ref.go:81", after := #[{ on := 2, ground := Ground.data }], guard := none }) (v := ?vh108) rfl (by kernel_rfl) (by kernel_rfl) (by kernel_rfl) (fun _ _ _ h => h) (Or.inl ⟨by rfl, ?yh108⟩) hS ?_
      case yh108 =>
        intro w hSw
        obtain ⟨j0, j1, j2, j4⟩ := hSw
        go_simp; all_goals (with_reducible rfl)
      simp only [Act.put, List.setIfInBounds_toArray, List.set_cons_zero, List.set_cons_succ]
      refine wpAnyH_take (i := 4) (oi := { dst := some 7, op := Op.unOp UnOp.not 4 (Operand.tmp 6), type := 4, pos := "ref.go:81", after := #[{ on := 3, ground := Ground.data }], guard := none }) (v := ?vh109) rfl (by kernel_rfl) (by kernel_rfl) (by kernel_rfl) (fun _ _ _ h => h) (Or.inl ⟨by rfl, ?yh109⟩) hS ?_
      case yh109 =>
        intro w hSw
        go_simp; all_goals (with_reducible rfl)
      simp only [Act.put, List.setIfInBounds_toArray, List.set_cons_zero, List.set_cons_succ]
      refine wpAnyH_take (i := 5) (oi := { dst := some 8, op := Op.move (Operand.tmp 7), type := 4, pos := "ref.go:81", after := #[{ on := 4, ground := Ground.data }], guard := none }) (v := ?vh110) rfl (by kernel_rfl) (by kernel_rfl) (by kernel_rfl) (fun _ _ _ h => h) (Or.inl ⟨by rfl, ?yh110⟩) hS ?_
      case yh110 =>
        intro w hSw
        go_simp; all_goals (with_reducible rfl)
      simp only [Act.put, List.setIfInBounds_toArray, List.set_cons_zero, List.set_cons_succ]
      refine wpAnyH_take (i := 6) (oi := { dst := some 9, op := Op.move (Operand.tmp 0), type := 32, pos := "ref.go:81", after := #[{ on := 5, ground := Ground.guard }], guard := some (5, true) }) (v := ?vh111) rfl (by kernel_rfl) (by kernel_rfl) (by kernel_rfl) (fun _ _ _ h => h) (Or.inl ⟨by rfl, ?yh111⟩) hS ?_
      case yh111 =>
        intro w hSw
        go_simp; all_goals (with_reducible rfl)
      simp only [Act.put, List.setIfInBounds_toArray, List.set_cons_zero, List.set_cons_succ]
      refine wpAnyH_take (i := 7) (oi := { dst := some 10, op := Op.nilCheck (Operand.tmp 9), type := 0, pos := "ref.go:81", after := #[{ on := 6, ground := Ground.data }, { on := 5, ground := Ground.guard }], guard := some (5, true) }) (v := ?vh112) rfl (by kernel_rfl) (by kernel_rfl) (by kernel_rfl) (fun _ _ _ h => h) (Or.inl ⟨by rfl, ?yh112⟩) hS ?_
      case yh112 =>
        intro w hSw
        go_simp; all_goals (with_reducible rfl)
      simp only [Act.put, List.setIfInBounds_toArray, List.set_cons_zero, List.set_cons_succ]
      refine wpAnyH_take (i := 8) (oi := { dst := some 11, op := Op.fieldAddr 90 (Operand.tmp 10) 1, type := 0, pos := "ref.go:81", after := #[{ on := 7, ground := Ground.data }, { on := 5, ground := Ground.guard }], guard := some (5, true) }) (v := ?vh113) rfl (by kernel_rfl) (by kernel_rfl) (by kernel_rfl) (fun _ _ _ h => h) (Or.inl ⟨by rfl, ?yh113⟩) hS ?_
      case yh113 =>
        intro w hSw
        go_simp; all_goals (with_reducible rfl)
      simp only [Act.put, List.setIfInBounds_toArray, List.set_cons_zero, List.set_cons_succ]
      refine wpAnyH_take (i := 9) (oi := { dst := some 12, op := Op.load 3 (Operand.tmp 11), type := 3, pos := "ref.go:81", after := #[{ on := 8, ground := Ground.data }, { on := 5, ground := Ground.guard }], guard := some (5, true) }) (v := ?vh114) rfl (by kernel_rfl) (by kernel_rfl) (by kernel_rfl) (fun _ _ _ h => h) (Or.inl ⟨by rfl, ?yh114⟩) hS ?_
      case yh114 =>
        intro w hSw
        obtain ⟨j0, j1, j2, j4⟩ := hSw
        go_simp; all_goals (with_reducible rfl)
      simp only [Act.put, List.setIfInBounds_toArray, List.set_cons_zero, List.set_cons_succ]
      refine wpAnyH_take (i := 10) (oi := { dst := some 13, op := Op.move (Operand.tmp 0), type := 32, pos := "ref.go:81", after := #[{ on := 5, ground := Ground.guard }], guard := some (5, true) }) (v := ?vh115) rfl (by kernel_rfl) (by kernel_rfl) (by kernel_rfl) (fun _ _ _ h => h) (Or.inl ⟨by rfl, ?yh115⟩) hS ?_
      case yh115 =>
        intro w hSw
        go_simp; all_goals (with_reducible rfl)
      simp only [Act.put, List.setIfInBounds_toArray, List.set_cons_zero, List.set_cons_succ]
      refine wpAnyH_take (i := 11) (oi := { dst := some 14, op := Op.nilCheck (Operand.tmp 13), type := 0, pos := "ref.go:81", after := #[{ on := 10, ground := Ground.data }, { on := 5, ground := Ground.guard }], guard := some (5, true) }) (v := ?vh116) rfl (by kernel_rfl) (by kernel_rfl) (by kernel_rfl) (fun _ _ _ h => h) (Or.inl ⟨by rfl, ?yh116⟩) hS ?_
      case yh116 =>
        intro w hSw
        go_simp; all_goals (with_reducible rfl)
      simp only [Act.put, List.setIfInBounds_toArray, List.set_cons_zero, List.set_cons_succ]
      refine wpAnyH_take (i := 12) (oi := { dst := some 15, op := Op.fieldAddr 90 (Operand.tmp 14) 0, type := 0, pos := "ref.go:81", after := #[{ on := 11, ground := Ground.data }, { on := 5, ground := Ground.guard }], guard := some (5, true) }) (v := ?vh117) rfl (by kernel_rfl) (by kernel_rfl) (by kernel_rfl) (fun _ _ _ h => h) (Or.inl ⟨by rfl, ?yh117⟩) hS ?_
      case yh117 =>
        intro w hSw
        go_simp; all_goals (with_reducible rfl)
      simp only [Act.put, List.setIfInBounds_toArray, List.set_cons_zero, List.set_cons_succ]
      refine wpAnyH_take (i := 13) (oi := { dst := some 16, op := Op.load 22 (Operand.tmp 15), type := 22, pos := "ref.go:81", after := #[{ on := 12, ground := Ground.data }, { on := 5, ground := Ground.guard }], guard := some (5, true) }) (v := ?vh118) rfl (by kernel_rfl) (by kernel_rfl) (by kernel_rfl) (fun _ _ _ h => h) (Or.inl ⟨by rfl, ?yh118⟩) hS ?_
      case yh118 =>
        intro w hSw
        obtain ⟨j0, j1, j2, j4⟩ := hSw
        go_simp; all_goals (with_reducible rfl)
      simp only [Act.put, List.setIfInBounds_toArray, List.set_cons_zero, List.set_cons_succ]
      refine wpAnyH_take (i := 14) (oi := { dst := some 17, op := Op.call { callee := Callee.builtin Builtin.len, args := #[Operand.tmp 16], argTypes := #[22] }, type := 3, pos := "ref.go:81", after := #[{ on := 13, ground := Ground.data }, { on := 5, ground := Ground.guard }], guard := some (5, true) }) (v := ?vh119) rfl (by kernel_rfl) (by kernel_rfl) (by kernel_rfl) (fun _ _ _ h => h) (Or.inl ⟨by rfl, ?yh119⟩) hS ?_
      case yh119 =>
        intro w hSw
        go_simp; all_goals (with_reducible rfl)
      simp only [Act.put, List.setIfInBounds_toArray, List.set_cons_zero, List.set_cons_succ]
      refine wpAnyH_take (i := 15) (oi := { dst := some 18, op := Op.binOp BinOp.eql 3 (Operand.tmp 12) (Operand.tmp 17) 3, type := 4, pos := "ref.go:81", after := #[{ on := 9, ground := Ground.data }, { on := 14, ground := Ground.data }, { on := 5, ground := Ground.guard }], guard := some (5, true) }) (v := ?vh120) rfl (by kernel_rfl) (by kernel_rfl) (by kernel_rfl) (fun _ _ _ h => h) (Or.inl ⟨by rfl, ?yh120⟩) hS ?_
      case yh120 =>
        intro w hSw
        go_simp; all_goals (with_reducible rfl)
      simp only [Act.put, List.setIfInBounds_toArray, List.set_cons_zero, List.set_cons_succ]
      refine wpAnyH_take (i := 16) (oi := { dst := some 19, op := Op.pick (Operand.tmp 8) (Operand.tmp 18) (Operand.const (Value.bool false)), type := 4, pos := "ref.go:81", after := #[{ on := 5, ground := Ground.data }, { on := 15, ground := Ground.data }], guard := none }) (v := ?vh121) rfl (by kernel_rfl) (by kernel_rfl) (by kernel_rfl) (fun _ _ _ h => h) (Or.inl ⟨by rfl, ?yh121⟩) hS ?_
      case yh121 =>
        intro w hSw
        go_simp; all_goals (with_reducible rfl)
      simp only [Act.put, List.setIfInBounds_toArray, List.set_cons_zero, List.set_cons_succ]
      refine wpAnyH_take (i := 17) (oi := { dst := some 20, op := Op.move (Operand.tmp 19), type := 4, pos := "ref.go:81", after := #[{ on := 16, ground := Ground.data }, { on := 5, ground := Ground.chain }], guard := none }) (v := ?vh122) rfl (by kernel_rfl) (by kernel_rfl) (by kernel_rfl) (fun _ _ _ h => h) (Or.inl ⟨by rfl, ?yh122⟩) hS ?_
      case yh122 =>
        intro w hSw
        go_simp; all_goals (with_reducible rfl)
      simp only [Act.put, List.setIfInBounds_toArray, List.set_cons_zero, List.set_cons_succ]
      refine wpAnyH_take (i := 18) (oi := { dst := some 21, op := Op.move (Operand.tmp 0), type := 32, pos := "ref.go:81", after := #[{ on := 17, ground := Ground.guard }], guard := some (17, true) }) (v := undef) rfl (by kernel_rfl) (by kernel_rfl) (by kernel_rfl) (fun _ _ _ h => h) (Or.inr ⟨by rfl, rfl⟩) hS ?_
      simp only [Act.put, List.setIfInBounds_toArray, List.set_cons_zero, List.set_cons_succ]
      refine wpAnyH_take (i := 19) (oi := { dst := some 22, op := Op.nilCheck (Operand.tmp 21), type := 0, pos := "ref.go:81", after := #[{ on := 18, ground := Ground.data }, { on := 17, ground := Ground.guard }], guard := some (17, true) }) (v := undef) rfl (by kernel_rfl) (by kernel_rfl) (by kernel_rfl) (fun _ _ _ h => h) (Or.inr ⟨by rfl, rfl⟩) hS ?_
      simp only [Act.put, List.setIfInBounds_toArray, List.set_cons_zero, List.set_cons_succ]
      refine wpAnyH_take (i := 20) (oi := { dst := some 23, op := Op.fieldAddr 90 (Operand.tmp 22) 2, type := 0, pos := "ref.go:81", after := #[{ on := 19, ground := Ground.data }, { on := 17, ground := Ground.guard }], guard := some (17, true) }) (v := undef) rfl (by kernel_rfl) (by kernel_rfl) (by kernel_rfl) (fun _ _ _ h => h) (Or.inr ⟨by rfl, rfl⟩) hS ?_
      simp only [Act.put, List.setIfInBounds_toArray, List.set_cons_zero, List.set_cons_succ]
      refine wpAnyH_take (i := 21) (oi := { dst := some 24, op := Op.load 88 (Operand.tmp 23), type := 88, pos := "ref.go:81", after := #[{ on := 20, ground := Ground.data }, { on := 17, ground := Ground.guard }], guard := some (17, true) }) (v := undef) rfl (by kernel_rfl) (by kernel_rfl) (by kernel_rfl) (fun _ _ _ h => h) (Or.inr ⟨by rfl, rfl⟩) hS ?_
      simp only [Act.put, List.setIfInBounds_toArray, List.set_cons_zero, List.set_cons_succ]
      refine wpAnyH_take (i := 22) (oi := { dst := some 25, op := Op.binOp BinOp.eql 88 (Operand.tmp 24) (Operand.const (Value.int IntKind.u64 0)) 88, type := 4, pos := "ref.go:81", after := #[{ on := 21, ground := Ground.data }, { on := 17, ground := Ground.guard }], guard := some (17, true) }) (v := undef) rfl (by kernel_rfl) (by kernel_rfl) (by kernel_rfl) (fun _ _ _ h => h) (Or.inr ⟨by rfl, rfl⟩) hS ?_
      simp only [Act.put, List.setIfInBounds_toArray, List.set_cons_zero, List.set_cons_succ]
      refine wpAnyH_take (i := 23) (oi := { dst := some 26, op := Op.pick (Operand.tmp 20) (Operand.tmp 25) (Operand.const (Value.bool false)), type := 4, pos := "ref.go:81", after := #[{ on := 17, ground := Ground.data }, { on := 22, ground := Ground.data }], guard := none }) (v := ?vh128) rfl (by kernel_rfl) (by kernel_rfl) (by kernel_rfl) (fun _ _ _ h => h) (Or.inl ⟨by rfl, ?yh128⟩) hS ?_
      case yh128 =>
        intro w hSw
        go_simp; all_goals (with_reducible rfl)
      simp only [Act.put, List.setIfInBounds_toArray, List.set_cons_zero, List.set_cons_succ]
      refine wpAnyH_take (i := 24) (oi := { dst := some 2, op := Op.assign (Operand.tmp 26), type := 4, pos := "ref.go:81", after := #[{ on := 23, ground := Ground.data }, { on := 17, ground := Ground.chain }, { on := 0, ground := Ground.phase }, { on := 1, ground := Ground.phase }, { on := 2, ground := Ground.phase }, { on := 3, ground := Ground.phase }, { on := 4, ground := Ground.phase }, { on := 5, ground := Ground.phase }, { on := 6, ground := Ground.phase }, { on := 7, ground := Ground.phase }, { on := 8, ground := Ground.phase }, { on := 9, ground := Ground.phase }, { on := 10, ground := Ground.phase }, { on := 11, ground := Ground.phase }, { on := 12, ground := Ground.phase }, { on := 13, ground := Ground.phase }, { on := 14, ground := Ground.phase }, { on := 15, ground := Ground.phase }, { on := 16, ground := Ground.phase }, { on := 17, ground := Ground.phase }, { on := 18, ground := Ground.phase }, { on := 19, ground := Ground.phase }, { on := 20, ground := Ground.phase }, { on := 21, ground := Ground.phase }, { on := 22, ground := Ground.phase }, { on := 23, ground := Ground.phase }], guard := none }) (v := ?vh129) rfl (by kernel_rfl) (by kernel_rfl) (by kernel_rfl) (fun _ _ _ h => h) (Or.inl ⟨by rfl, ?yh129⟩) hS ?_
      case yh129 =>
        intro w hSw
        go_simp; all_goals (with_reducible rfl)
      simp only [Act.put, List.setIfInBounds_toArray, List.set_cons_zero, List.set_cons_succ]
      refine wpAnyH_done (by kernel_rfl) ?_ _
      go_wp2_with fail
      go_ret
      exact ⟨rfl, (Below.refl _ _).drew⟩

end Go.Proofs.Ytdkimllfpiphgaa

/- The walks over the reference's New, and the statements' examples. -/
namespace Go.Proofs.Ytdkimllfpiphgaa
open Go.RowKit

/-- Code as it is put together. -/
def Rd.pc (l : List UInt8) : Nat → Nat
  | 0 => 0
  | t + 1 => 256 * Rd.pc l t + (l.getD (t + 1) 0).toNat
theorem Rd.pc_lt (l : List UInt8) : ∀ t, Rd.pc l t < 256 ^ t
  | 0 => by show 0 < 1; omega
  | t + 1 => by
    have h1 := Rd.pc_lt l t
    have h2 := (l.getD (t + 1) 0).toNat_lt
    show 256 * Rd.pc l t + _ < _
    rw [Nat.pow_succ]; omega
theorem Rd.pc_four (l : List UInt8) : Rd.pc l 4 = Rd.code0 l := by
  show 256 * (256 * (256 * (256 * 0 + (l.getD 1 0).toNat) + (l.getD 2 0).toNat) + (l.getD 3 0).toNat) + (l.getD 4 0).toNat = _
  unfold Rd.code0; omega

def RNone (w : World) (n : Int) (e : Ending) (w' : World) : Prop := e = .returned (.tuple #[.pointer none, .int .i64 n]) ∧ w = w'
def RSome (w : World) (b off cc : Nat) (l : List UInt8) (e : Ending) (w' : World) : Prop :=
  ∃ h, e = .returned (.tuple #[.pointer (some ⟨h, 0, none⟩), .int .i64 0]) ∧ RDecIs w' h b off cc l (Rd.start l) ∧ Below w.heap.size w w' ∧ w.heap.size ≤ h

set_option maxRecDepth 100000 in
set_option maxHeartbeats 1000000 in
theorem rdnew_short (A : Option Addr) (l : List UInt8) (c : Nat) (w : World) (h : l.length < 5) :
    Calls Try.prog 9 #[.slice A l.length c] w (RNone w 2) := by
  generalize l.length = L at *
  have h' : (L : Int) < 5 := by omega
  go_enter Try.func9, Try.ntmps9
  go_wp2_with fail
  go_ret2
  exact ⟨rfl, rfl⟩

set_option maxRecDepth 100000 in
set_option maxHeartbeats 1000000 in
theorem rdnew_bad (A : Option Addr) (l : List UInt8) (c : Nat) (w : World) (hB : Bytes w A l) (h : 5 ≤ l.length) (h0 : l.getD 0 0 ≠ 0) :
    Calls Try.prog 9 #[.slice A l.length c] w (RNone w 6) := by
  obtain ⟨b, off, rfl, hb, hc⟩ := hB.five h
  have k0 := hc 0 (by omega)
  rw [Nat.add_zero] at k0
  have hne : ((l.getD 0 0).toNat : Int) != 0 := by
    rw [bne_iff_ne]; intro he; exact h0 (UInt8.toNat_inj.1 (by simpa using he))
  generalize l.getD 0 0 = b0 at *
  generalize l.length = L at *
  have h' : ¬ (L : Int) < 5 := by omega
  have h5 : 0 < L := by omega
  have h6 : ((b0.toNat : Int) == 0) = false := by rw [beq_eq_false_iff_ne]; exact bne_iff_ne.1 hne
  clear hc h0
  go_enter Try.func9, Try.ntmps9
  go_wp2_with fail
  go_ret2
  exact ⟨rfl, rfl⟩

theorem code_ref2 (c b : Nat) (hc : c < 4294967296) (hb : b < 256) : IntKind.u64.wrap (IntKind.u64.wrap (256 * (c : Int)) + IntKind.u64.wrap (b : Int)) = ((256 * c + b : Nat) : Int) := by
  have e1 : IntKind.u64.wrap (256 * (c : Int)) = ((256 * c : Nat) : Int) := by rw [IntKind.wrap_u64]; omega
  have e2 : IntKind.u64.wrap (b : Int) = (b : Int) := by rw [IntKind.wrap_u64]; omega
  have e3 : IntKind.u64.wrap (((256 * c : Nat) : Int) + (b : Int)) = ((256 * c + b : Nat) : Int) := by rw [IntKind.wrap_u64]; omega
  rw [e1, e2, e3]

set_option maxRecDepth 100000 in
set_option maxHeartbeats 1000000 in
theorem rdnew_good (b off : Nat) (l : List UInt8) (c : Nat) (w : World) (hB : Bytes w (some ⟨b, off, none⟩) l) (h : 5 ≤ l.length) (h0 : l.getD 0 0 = 0) :
    Calls Try.prog 9 #[.slice (some ⟨b, off, none⟩) l.length c] w (RSome w b off c l) := by
  obtain ⟨b', off', he, hb, hc⟩ := hB.five h
  injection he with he; injection he with he1 he2; subst he1; subst he2
  have k0 := hc 0 (by omega)
  rw [Nat.add_zero, h0] at k0
  have HC := Lib.hid hc
  have hblk := heap_alloc_new w (.cells #[.slice (some ⟨b, off, none⟩) l.length c, .int .i64 5, .int .u64 0, .int .u64 4294967295, .bool false] 90)
  have hbel : Below w.heap.size w (w.alloc (.cells #[.slice (some ⟨b, off, none⟩) l.length c, .int .i64 5, .int .u64 0, .int .u64 4294967295, .bool false] 90)) := (Below.refl _ _).alloc (Nat.le_refl _) _
  have hT : RDecAt (w.alloc (.cells #[.slice (some ⟨b, off, none⟩) l.length c, .int .i64 5, .int .u64 0, .int .u64 4294967295, .bool false] 90)) w.heap.size b off c l (Rd.pc l 0) 4294967295 5 false := ⟨hblk, hB.alloc _, by omega, by simp; omega⟩
  generalize hL : l.length = L at *
  have HL := Lib.hid hL
  have h' : ¬ (L : Int) < 5 := by omega
  have g0 : 0 < L := by omega
  clear hc h0 hblk hB hL
  go_enter Try.func9, Try.ntmps9
  go_wp2_with fail
  generalize w.alloc (.cells #[.slice (some ⟨b, off, none⟩) L c, .int .i64 5, .int .u64 0, .int .u64 4294967295, .bool false] 90) = w1 at *
  go_loopw [5] (fun i wr => ∃ t : Nat, 1 ≤ t ∧ t ≤ 5 ∧ i = .int .i64 (t : Nat) ∧ RDecAt wr w.heap.size b off c l (Rd.pc l (t - 1)) 4294967295 5 false ∧ Below w.heap.size w wr) (fun i _ => 5 - (intOf i).toNat)
  case atStart => exact ⟨1, by omega, by omega, rfl, hT, hbel⟩
  case round =>
    obtain ⟨t, ht1, ht5, rfl, hT2, hbe⟩ := hrel
    clear hT hbel k0
    by_cases hlt : t < 5
    · have hlt' : (t : Int) < 5 := by omega
      have hci := HC.out t (by omega)
      have hcell : wr.drew.cell? ⟨b, off + t, none⟩ = some (B8 (l.getD t 0)) := (hbe.cell (p := ⟨b, off + t, none⟩) hb).trans hci
      have hp1 := Rd.pc_lt l (t - 1)
      have hp2 : 256 ^ (t - 1) ≤ 256 ^ 4 := Nat.pow_le_pow_right (by omega) (by omega)
      have hnx : Rd.pc l (t + 1 - 1) = 256 * Rd.pc l (t - 1) + (l.getD t 0).toNat := by
        obtain ⟨j, rfl⟩ : ∃ j, t = j + 1 := ⟨t - 1, by omega⟩
        rfl
      have hcv := code_ref2 (Rd.pc l (t - 1)) (l.getD t 0).toNat (by omega) (l.getD t 0).toNat_lt
      rw [← hnx] at hcv
      have HNX := Lib.hid hnx
      generalize hbb : l.getD t 0 = bb at *
      generalize Rd.pc l (t - 1) = c0 at *
      generalize hCC : Rd.pc l (t + 1 - 1) = C at *
      have HCC := Lib.hid hCC
      have HCV := Lib.hid hcv
      have htl : t < L := by omega
      have htli : (t : Int) < (L : Int) := by omega
      clear hci hnx hcv hbb hCC hp1 hp2
      generalize hH : w.heap.size = hh at *
      have q1 : wr.drew.cell? ⟨b, off + t, none⟩ = some (B8 bb) := hcell
      have k2 : wr.drew.cell? ⟨hh, 2, none⟩ = some (.int .u64 (c0 : Nat)) := c52 hT2.blk
      have f2 : wr.drew.frozen? ⟨hh, 2, none⟩ = false := frozen_of_row wr.drew hh 2 _ _ hT2.blk
      have hT3a : RDecAt (wr.setCell ⟨hh, 2, none⟩ (.int .u64 (C : Nat))) hh b off c l C 4294967295 5 false := ⟨s52 hT2.blk _, bytes_set' hT2.own hT2.ne _, hT2.ne, by simpa using hT2.lt⟩
      have hT3 := hT3a.below (drew_below _)
      have hb3 : Below hh w (wr.setCell ⟨hh, 2, none⟩ (.int .u64 (C : Nat))).drew := (hbe.setCell (Nat.le_refl _) _).drew
      have hq : (wr.setCell ⟨hh, 2, none⟩ (.int .u64 (C : Nat))).drew.cell? ⟨b, off + t, none⟩ = some (B8 bb) := (World.cell?_setCell_far wr _ _ _ hT2.ne).trans hcell
      have HH := Lib.hid hH
      clear hT3a hcell hH
      go_upto_region 9 with (fail)
      refine wp_region_held_drew (S := fun w' => w'.cell? ⟨b, off + t, none⟩ = some (B8 bb)) (by kernel_rfl) q1 (fun hS => ?_)
      refine wpAnyH_take (i := 0) (oi := { dst := some 20, op := Op.move (Operand.tmp 4), type := 32, pos := "ref.go:25", after := #[], guard := none }) (v := ?va1) rfl (by kernel_rfl) (by kernel_rfl) (by kernel_rfl) (fun _ _ _ h => h) (Or.inl ⟨by rfl, ?ya1⟩) hS ?_
      case ya1 =>
        intro w hSw
        go_simp; all_goals (with_reducible rfl)
      simp only [Act.put, List.setIfInBounds_toArray, List.set_cons_zero, List.set_cons_succ]
      refine wpAnyH_take (i := 1) (oi := { dst := some 21, op := Op.move (Operand.tmp 4), type := 32, pos := "ref.go:25", after := #[], guard := none }) (v := ?va2) rfl (by kernel_rfl) (by kernel_rfl) (by kernel_rfl) (fun _ _ _ h => h) (Or.inl ⟨by rfl, ?ya2⟩) hS ?_
      case ya2 =>
        intro w hSw
        go_simp; all_goals (with_reducible rfl)
      simp only [Act.put, List.setIfInBounds_toArray, List.set_cons_zero, List.set_cons_succ]
      refine wpAnyH_take (i := 2) (oi := { dst := some 22, op := Op.nilCheck (Operand.tmp 21), type := 0, pos := "ref.go:25", after := #[{ on := 1, ground := Ground.data }], guard := none }) (v := ?va3) rfl (by kernel_rfl) (by kernel_rfl) (by kernel_rfl) (fun _ _ _ h => h) (Or.inl ⟨by rfl, ?ya3⟩) hS ?_
      case ya3 =>
        intro w hSw
        go_simp; all_goals (with_reducible rfl)
      simp only [Act.put, List.setIfInBounds_toArray, List.set_cons_zero, List.set_cons_succ]
      refine wpAnyH_take (i := 3) (oi := { dst := some 23, op := Op.fieldAddr 90 (Operand.tmp 22) 2, type := 0, pos := "ref.go:25", after := #[{ on := 2, ground := Ground.data }], guard := none }) (v := ?va4) rfl (by kernel_rfl) (by kernel_rfl) (by kernel_rfl) (fun _ _ _ h => h) (Or.inl ⟨by rfl, ?ya4⟩) hS ?_
      case ya4 =>
        intro w hSw
        go_simp; all_goals (with_reducible rfl)
      simp only [Act.put, List.setIfInBounds_toArray, List.set_cons_zero, List.set_cons_succ]
      refine wpAnyH_take (i := 6) (oi := { dst := some 26, op := Op.move (Operand.tmp 0), type := 22, pos := "ref.go:25", after := #[], guard := none }) (v := ?va5) rfl (by kernel_rfl) (by kernel_rfl) (by kernel_rfl) (fun _ _ _ h => h) (Or.inl ⟨by rfl, ?ya5⟩) hS ?_
      case ya5 =>
        intro w hSw
        go_simp; all_goals (with_reducible rfl)
      simp only [Act.put, List.setIfInBounds_toArray, List.set_cons_zero, List.set_cons_succ]
      refine wpAnyH_take (i := 7) (oi := { dst := some 27, op := Op.move (Operand.tmp 5), type := 3, pos := "ref.go:25", after := #[], guard := none }) (v := ?va6) rfl (by kernel_rfl) (by kernel_rfl) (by kernel_rfl) (fun _ _ _ h => h) (Or.inl ⟨by rfl, ?ya6⟩) hS ?_
      case ya6 =>
        intro w hSw
        go_simp; all_goals (with_reducible rfl)
      simp only [Act.put, List.setIfInBounds_toArray, List.set_cons_zero, List.set_cons_succ]
      refine wpAnyH_take (i := 8) (oi := { dst := some 28, op := Op.indexAddr 22 (Operand.tmp 26) (Operand.tmp 27), type := 0, pos := "ref.go:25", after := #[{ on := 6, ground := Ground.data }, { on := 7, ground := Ground.data }], guard := none }) (v := ?va7) rfl (by kernel_rfl) (by kernel_rfl) (by kernel_rfl) (fun _ _ _ h => h) (Or.inl ⟨by rfl, ?ya7⟩) hS ?_
      case ya7 =>
        intro w hSw
        go_simp; all_goals (with_reducible rfl)
      simp only [Act.put, List.setIfInBounds_toArray, List.set_cons_zero, List.set_cons_succ]
      refine wpAnyH_take (i := 9) (oi := { dst := some 29, op := Op.load 5 (Operand.tmp 28), type := 5, pos := "ref.go:25", after := #[{ on := 8, ground := Ground.data }], guard := none }) (v := ?va8) rfl (by kernel_rfl) (by kernel_rfl) (by kernel_rfl) (fun _ _ _ h => h) (Or.inl ⟨by rfl, ?ya8⟩) hS ?_
      case ya8 =>
        intro w hSw
        have j1 := hSw
        go_simp; all_goals (with_reducible rfl)
      simp only [Act.put, List.setIfInBounds_toArray, List.set_cons_zero, List.set_cons_succ]
      refine wpAnyH_take (i := 10) (oi := { dst := some 30, op := Op.convert 5 88 (Operand.tmp 29), type := 88, pos := "ref.go:25", after := #[{ on := 9, ground := Ground.data }], guard := none }) (v := ?va9) rfl (by kernel_rfl) (by kernel_rfl) (by kernel_rfl) (fun _ _ _ h => h) (Or.inl ⟨by rfl, ?ya9⟩) hS ?_
      case ya9 =>
        intro w hSw
        go_simp; all_goals (with_reducible rfl)
      simp only [Act.put, List.setIfInBounds_toArray, List.set_cons_zero, List.set_cons_succ]
      refine wpAnyH_ready (rs := [4]) (by kernel_rfl) (by simp) ?_
      refine (AllReadyH.cons (o := { dst := some 24, op := Op.load 88 (Operand.tmp 23), type := 88, pos := "ref.go:25", after := #[{ on := 3, ground := Ground.data }], guard := none }) rfl (fun K hK => ?_) AllReadyH.nil)
      go_simp
      refine hK.out _ _ hS (fun _ => ?_)
      clear hK K
      refine wpAnyH_take (i := 5) (oi := { dst := some 25, op := Op.binOp BinOp.mul 88 (Operand.const (Value.int IntKind.u64 256)) (Operand.tmp 24) 88, type := 88, pos := "ref.go:25", after := #[{ on := 4, ground := Ground.data }], guard := none }) (v := ?va10) rfl (by kernel_rfl) (by kernel_rfl) (by kernel_rfl) (fun _ _ _ h => h) (Or.inl ⟨by rfl, ?ya10⟩) hS ?_
      case ya10 =>
        intro w hSw
        go_simp; all_goals (with_reducible rfl)
      simp only [Act.put, List.setIfInBounds_toArray, List.set_cons_zero, List.set_cons_succ]
      refine wpAnyH_take (i := 11) (oi := { dst := some 31, op := Op.binOp BinOp.add 88 (Operand.tmp 25) (Operand.tmp 30) 88, type := 88, pos := "ref.go:25", after := #[{ on := 5, ground := Ground.data }, { on := 10, ground := Ground.data }], guard := none }) (v := .int .u64 (C : Nat)) rfl (by kernel_rfl) (by kernel_rfl) (by kernel_rfl) (fun _ _ _ h => h) (Or.inl ⟨by rfl, ?ya11⟩) hS ?_
      case ya11 =>
        intro w hSw
        go_simp; rw [HCV.out]
      simp only [Act.put, List.setIfInBounds_toArray, List.set_cons_zero, List.set_cons_succ]
      refine wpAnyH_take (i := 12) (oi := { dst := some 32, op := Op.nilCheck (Operand.tmp 20), type := 0, pos := "ref.go:25", after := #[{ on := 0, ground := Ground.data }, { on := 0, ground := Ground.phase }, { on := 1, ground := Ground.phase }, { on := 2, ground := Ground.phase }, { on := 3, ground := Ground.phase }, { on := 4, ground := Ground.phase }, { on := 5, ground := Ground.phase }, { on := 6, ground := Ground.phase }, { on := 7, ground := Ground.phase }, { on := 8, ground := Ground.phase }, { on := 9, ground := Ground.phase }, { on := 10, ground := Ground.phase }, { on := 11, ground := Ground.phase }], guard := none }) (v := ?va12) rfl (by kernel_rfl) (by kernel_rfl) (by kernel_rfl) (fun _ _ _ h => h) (Or.inl ⟨by rfl, ?ya12⟩) hS ?_
      case ya12 =>
        intro w hSw
        go_simp; all_goals (with_reducible rfl)
      simp only [Act.put, List.setIfInBounds_toArray, List.set_cons_zero, List.set_cons_succ]
      refine wpAnyH_take (i := 13) (oi := { dst := some 33, op := Op.fieldAddr 90 (Operand.tmp 32) 2, type := 0, pos := "ref.go:25", after := #[{ on := 12, ground := Ground.data }, { on := 0, ground := Ground.phase }, { on := 1, ground := Ground.phase }, { on := 2, ground := Ground.phase }, { on := 3, ground := Ground.phase }, { on := 4, ground := Ground.phase }, { on := 5, ground := Ground.phase }, { on := 6, ground := Ground.phase }, { on := 7, ground := Ground.phase }, { on := 8, ground := Ground.phase }, { on := 9, ground := Ground.phase }, { on := 10, ground := Ground.phase }, { on := 11, ground := Ground.phase }], guard := none }) (v := ?va13) rfl (by kernel_rfl) (by kernel_rfl) (by kernel_rfl) (fun _ _ _ h => h) (Or.inl ⟨by rfl, ?ya13⟩) hS ?_
      case ya13 =>
        intro w hSw
        go_simp; all_goals (with_reducible rfl)
      simp only [Act.put, List.setIfInBounds_toArray, List.set_cons_zero, List.set_cons_succ]
      refine wpAnyH_ready (rs := [14]) (by kernel_rfl) (by simp) ?_
      refine (AllReadyH.cons (o := { dst := none, op := Op.store 88 (Operand.tmp 33) (Operand.tmp 31), type := 0, pos := "ref.go:25", after := #[{ on := 13, ground := Ground.data }, { on := 11, ground := Ground.data }, { on := 0, ground := Ground.phase }, { on := 1, ground := Ground.phase }, { on := 2, ground := Ground.phase }, { on := 3, ground := Ground.phase }, { on := 4, ground := Ground.phase }, { on := 5, ground := Ground.phase }, { on := 6, ground := Ground.phase }, { on := 7, ground := Ground.phase }, { on := 8, ground := Ground.phase }, { on := 9, ground := Ground.phase }, { on := 10, ground := Ground.phase }, { on := 11, ground := Ground.phase }], guard := none }) rfl (fun K hK => ?_) AllReadyH.nil)
      go_simp
      refine hK.out _ _ hq (fun _ => ?_)
      clear hK K
      refine wpAnyH_done (by kernel_rfl) ?_ _
      generalize (wr.setCell ⟨hh, 2, none⟩ (.int .u64 (C : Nat))).drew = w5 at *
      clear k2 f2 q1 hq
      go_wp2_with fail
      go_roundw
      case rel => exact ⟨t + 1, by omega, by omega, congrArg (Value.int .i64) (by omega), by rw [HCC.out]; exact hT3, hb3⟩
      case measure => simp [intOf] <;> omega
    · obtain rfl : t = 5 := by omega
      go_wp2_with fail
      go_ret2
      refine ⟨w.heap.size, rfl, ⟨_, _, (fun _ => ⟨?_, rfl⟩), hT2⟩, hbe, Nat.le_refl _⟩
      exact Rd.pc_four l
end Go.Proofs.Ytdkimllfpiphgaa
