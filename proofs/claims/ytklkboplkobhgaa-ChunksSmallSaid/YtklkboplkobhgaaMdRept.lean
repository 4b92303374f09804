/- The model's repeat. -/
import Derived.Test.YtklkboplkobhgaaMdMatch
namespace Go.Proofs.Ytklkboplkobhgaa
set_option maxRecDepth 100000
open Go.RowKit

theorem went_trans_undrew {io : Io} {C L lc lp pb st' : Nat} {r' : R4} {x' : io.S} {X X1 : List Nat} {w w1 w2 : World} {n : Nat} (ho : Only (C :: L :: X) w w1 ∧ ∀ i ∈ X1, i ∈ X ∨ w.heap.size ≤ i) (h : Went io C L lc lp pb st' r' x' X1 (w1.drewN n) w2) : Went io C L lc lp pb st' r' x' X w w2 := Went.trans ho.1 ho.2 (went_undrew h)
namespace Md
def which (io : Io) (st : Nat) (q : Int) (x : io.S) : Nat × io.S :=
  let a := io.bitAt (204 + st) (q != 0) x
  if a.1 = false then (0, a.2)
  else
    let b := io.bitAt (216 + st) (q != 1) a.2
    if b.1 = false then (1, b.2)
    else
      let c := io.bitAt (228 + st) (q != 2) b.2
      (2 + c.1.toNat, c.2)
/-- Which repeat, and its length. -/
def rept (io : Io) (st p : Nat) (l q : Int) (x : io.S) : (Nat × Nat) × io.S :=
  let w := which io st q x
  if w.1 = 0 then
    let s := io.bitAt (240 + 16 * st + p) (l != 1) w.2
    if s.1 = false then ((0, 1), s.2)
    else
      let n := len io 946 p l s.2
      ((0, n.1), n.2)
  else
    let n := len io 946 p l w.2
    ((w.1, n.1), n.2)
end Md
set_option maxRecDepth 100000 in
set_option maxHeartbeats 2000000 in
theorem which_is (io : Io) {C L lc lp pb st : Nat} {r : R4} {x : io.S} {X : List Nat} {w : World} (hM : MS io w C L lc lp pb st r x X) (hst : st < 12) {k wh : Nat} {q : Int} {Z : io.S} (hR : Md.which io st q x = (wh, Z)) (hok : io.ok x.2 (k + 3)) :
    Calls Try.prog 54 #[PF C, io.v, .int .i64 q] w (MAnd (wh ≤ 3 ∧ io.ok Z.2 k) (MDone (.int .i64 (wh : Nat)) io C L lc lp pb st r Z X w)) := by
  obtain ⟨Q, hQ⟩ : ∃ Q, (wh ≤ 3 ∧ io.ok Z.2 k) = Q := ⟨_, rfl⟩
  rw [hQ]
  have HQ := Lib.hid hQ
  have hsti : (st : Int) < 12 := by omega
  have HST := Lib.hid hst
  unfold Md.which at hR
  obtain ⟨⟨A, y⟩, hy⟩ : ∃ z, io.bitAt (204 + st) (q != 0) x = z := ⟨_, rfl⟩
  obtain ⟨h1, ok1⟩ := bit_is io (hM.drewN 1) hy (at_ := 204) (j := st) (len := 12) (cp := 12) (b := C) (off := 212) rfl (k := k + 2) hok (Md.seg_head rfl (by omega)) hst (by omega) (by omega)
  simp only [hy] at hR
  have H1 := Lib.hid h1
  have HOK1 := Lib.hid ok1
  have HR := Lib.hid hR
  have hon0 : Only (C :: L :: X) w w ∧ ∀ i ∈ X, i ∈ X ∨ w.heap.size ≤ i := ⟨Only.refl _ _, fun i hi => .inl hi⟩
  have HON0 := Lib.hid hon0
  have hdr := hM.mod.cells.2.2.2.1
  have hc3 := hdr
  clear hy hR h1 ok1 hok hQ hM hst hon0
  go_enter Try.func54, Try.ntmps54
  go_upto_region 2 with fail
  refine wp_region_held_drew (S := fun w2 => w2.cell? ⟨C, 3, none⟩ = some (.int .i64 (st : Nat))) (by kernel_rfl) hdr (fun hS => ?_)
  refine wpAnyH_take (i := 0) (oi := { dst := some 21, op := Op.move (Operand.tmp 1), type := 112, pos := "model.go:166", after := #[], guard := none }) (v := ?vwa1) rfl (by kernel_rfl) (by kernel_rfl) (by kernel_rfl) (fun _ _ _ h => h) (Or.inl ⟨by rfl, ?ywa1⟩) hS ?_
  case ywa1 =>
    intro w hSw
    go_simp; all_goals (with_reducible rfl)
  simp only [Act.put, List.setIfInBounds_toArray, List.set_cons_zero, List.set_cons_succ]
  refine wpAnyH_take (i := 1) (oi := { dst := some 22, op := Op.move (Operand.tmp 0), type := 38, pos := "model.go:166", after := #[], guard := none }) (v := ?vwa2) rfl (by kernel_rfl) (by kernel_rfl) (by kernel_rfl) (fun _ _ _ h => h) (Or.inl ⟨by rfl, ?ywa2⟩) hS ?_
  case ywa2 =>
    intro w hSw
    go_simp; all_goals (with_reducible rfl)
  simp only [Act.put, List.setIfInBounds_toArray, List.set_cons_zero, List.set_cons_succ]
  refine wpAnyH_take (i := 2) (oi := { dst := some 23, op := Op.nilCheck (Operand.tmp 22), type := 0, pos := "model.go:166", after := #[{ on := 1, ground := Ground.data }], guard := none }) (v := ?vwa3) rfl (by kernel_rfl) (by kernel_rfl) (by kernel_rfl) (fun _ _ _ h => h) (Or.inl ⟨by rfl, ?ywa3⟩) hS ?_
  case ywa3 =>
    intro w hSw
    go_simp; all_goals (with_reducible rfl)
  simp only [Act.put, List.setIfInBounds_toArray, List.set_cons_zero, List.set_cons_succ]
  refine wpAnyH_take (i := 3) (oi := { dst := some 24, op := Op.fieldAddr 79 (Operand.tmp 23) 7, type := 0, pos := "model.go:166", after := #[{ on := 2, ground := Ground.data }], guard := none }) (v := ?vwa4) rfl (by kernel_rfl) (by kernel_rfl) (by kernel_rfl) (fun _ _ _ h => h) (Or.inl ⟨by rfl, ?ywa4⟩) hS ?_
  case ywa4 =>
    intro w hSw
    go_simp; all_goals (with_reducible rfl)
  simp only [Act.put, List.setIfInBounds_toArray, List.set_cons_zero, List.set_cons_succ]
  refine wpAnyH_take (i := 4) (oi := { dst := some 25, op := Op.slice 64 (Operand.tmp 24) none none none, type := 114, pos := "model.go:166", after := #[{ on := 3, ground := Ground.data }], guard := none }) (v := ?vwa5) rfl (by kernel_rfl) (by kernel_rfl) (by kernel_rfl) (fun _ _ _ h => h) (Or.inl ⟨by rfl, ?ywa5⟩) hS ?_
  case ywa5 =>
    intro w hSw
    go_simp; all_goals (with_reducible rfl)
  simp only [Act.put, List.setIfInBounds_toArray, List.set_cons_zero, List.set_cons_succ]
  refine wpAnyH_take (i := 5) (oi := { dst := some 26, op := Op.move (Operand.tmp 0), type := 38, pos := "model.go:166", after := #[], guard := none }) (v := ?vwa6) rfl (by kernel_rfl) (by kernel_rfl) (by kernel_rfl) (fun _ _ _ h => h) (Or.inl ⟨by rfl, ?ywa6⟩) hS ?_
  case ywa6 =>
    intro w hSw
    go_simp; all_goals (with_reducible rfl)
  simp only [Act.put, List.setIfInBounds_toArray, List.set_cons_zero, List.set_cons_succ]
  refine wpAnyH_take (i := 6) (oi := { dst := some 27, op := Op.nilCheck (Operand.tmp 26), type := 0, pos := "model.go:166", after := #[{ on := 5, ground := Ground.data }], guard := none }) (v := ?vwa7) rfl (by kernel_rfl) (by kernel_rfl) (by kernel_rfl) (fun _ _ _ h => h) (Or.inl ⟨by rfl, ?ywa7⟩) hS ?_
  case ywa7 =>
    intro w hSw
    go_simp; all_goals (with_reducible rfl)
  simp only [Act.put, List.setIfInBounds_toArray, List.set_cons_zero, List.set_cons_succ]
  refine wpAnyH_take (i := 7) (oi := { dst := some 28, op := Op.fieldAddr 79 (Operand.tmp 27) 3, type := 0, pos := "model.go:166", after := #[{ on := 6, ground := Ground.data }], guard := none }) (v := ?vwa8) rfl (by kernel_rfl) (by kernel_rfl) (by kernel_rfl) (fun _ _ _ h => h) (Or.inl ⟨by rfl, ?ywa8⟩) hS ?_
  case ywa8 =>
    intro w hSw
    go_simp; all_goals (with_reducible rfl)
  simp only [Act.put, List.setIfInBounds_toArray, List.set_cons_zero, List.set_cons_succ]
  refine wpAnyH_take (i := 8) (oi := { dst := some 29, op := Op.load 3 (Operand.tmp 28), type := 3, pos := "model.go:166", after := #[{ on := 7, ground := Ground.data }], guard := none }) (v := ?vwa9) rfl (by kernel_rfl) (by kernel_rfl) (by kernel_rfl) (fun _ _ _ h => h) (Or.inl ⟨by rfl, ?ywa9⟩) hS ?_
  case ywa9 =>
    intro w hSw
    have q1 := hSw
    go_simp; all_goals (with_reducible rfl)
  simp only [Act.put, List.setIfInBounds_toArray, List.set_cons_zero, List.set_cons_succ]
  refine wpAnyH_take (i := 9) (oi := { dst := some 30, op := Op.move (Operand.tmp 2), type := 3, pos := "model.go:166", after := #[], guard := none }) (v := ?vwa10) rfl (by kernel_rfl) (by kernel_rfl) (by kernel_rfl) (fun _ _ _ h => h) (Or.inl ⟨by rfl, ?ywa10⟩) hS ?_
  case ywa10 =>
    intro w hSw
    go_simp; all_goals (with_reducible rfl)
  simp only [Act.put, List.setIfInBounds_toArray, List.set_cons_zero, List.set_cons_succ]
  refine wpAnyH_take (i := 10) (oi := { dst := some 31, op := Op.binOp BinOp.neq 3 (Operand.tmp 30) (Operand.const (Value.int IntKind.i64 0)) 3, type := 4, pos := "model.go:166", after := #[{ on := 9, ground := Ground.data }], guard := none }) (v := ?vwa11) rfl (by kernel_rfl) (by kernel_rfl) (by kernel_rfl) (fun _ _ _ h => h) (Or.inl ⟨by rfl, ?ywa11⟩) hS ?_
  case ywa11 =>
    intro w hSw
    go_simp; all_goals (with_reducible rfl)
  simp only [Act.put, List.setIfInBounds_toArray, List.set_cons_zero, List.set_cons_succ]
  refine wpAnyH_ready (rs := [11]) (by kernel_rfl) (by simp) ?_
  refine (AllReadyH.cons (o := { dst := some 32, op := Op.call { callee := Callee.value (Operand.func 41), args := #[Operand.tmp 21, Operand.tmp 25, Operand.tmp 29, Operand.tmp 31], argTypes := #[112, 114, 3, 4] }, type := 3, pos := "model.go:166", after := #[{ on := 0, ground := Ground.data }, { on := 4, ground := Ground.data }, { on := 8, ground := Ground.data }, { on := 10, ground := Ground.data }], guard := none }) rfl (fun K hK => ?_) AllReadyH.nil)
  go_simp
  refine H1.out.mono ?_
  rintro e x1 ⟨rfl, hwx1⟩
  obtain ⟨X1, hMx1, honx1, hXx1⟩ := went_trans_undrew HON0.out hwx1
  have HMx1 := Lib.hid hMx1
  have HOx1 := Lib.hid (And.intro honx1 hXx1)
  have gx1 := hMx1.mod.cells.2.2.2.1
  clear hMx1 honx1 hXx1 hwx1
  go_wp2_with fail
  refine hK.out _ _ gx1 (fun _ => ?_)
  clear hK K
  refine wpAnyH_take (i := 12) (oi := { dst := some 33, op := Op.binOp BinOp.eql 3 (Operand.tmp 32) (Operand.const (Value.int IntKind.i64 0)) 3, type := 4, pos := "model.go:166", after := #[{ on := 11, ground := Ground.data }], guard := none }) (v := ?vwa12) rfl (by kernel_rfl) (by kernel_rfl) (by kernel_rfl) (fun _ _ _ h => h) (Or.inl ⟨by rfl, ?ywa12⟩) gx1 ?_
  case ywa12 =>
    intro w hSw
    go_simp; all_goals (with_reducible rfl)
  simp only [Act.put, List.setIfInBounds_toArray, List.set_cons_zero, List.set_cons_succ]
  refine wpAnyH_take (i := 13) (oi := { dst := some 20, op := Op.assign (Operand.tmp 33), type := 4, pos := "model.go:166", after := #[{ on := 12, ground := Ground.data }, { on := 11, ground := Ground.chain }], guard := none }) (v := ?vwa13) rfl (by kernel_rfl) (by kernel_rfl) (by kernel_rfl) (fun _ _ _ h => h) (Or.inl ⟨by rfl, ?ywa13⟩) gx1 ?_
  case ywa13 =>
    intro w hSw
    go_simp; all_goals (with_reducible rfl)
  simp only [Act.put, List.setIfInBounds_toArray, List.set_cons_zero, List.set_cons_succ]
  refine wpAnyH_done (by kernel_rfl) ?_ _

  clear hS hdr hc3 H1
  cases A with
  | false =>
    have hR := HR.out
    simp only [if_true] at hR
    injection hR with hR1 hR2
    have HRE := Lib.hid (And.intro hR1.symm hR2.symm)
    clear hR1 hR2
    rw [show bitI false = 0 from rfl]
    go_wp2_with fail
    go_ret
    obtain ⟨e1, e2⟩ := HRE.out
    subst e1 e2
    exact ⟨⟨rfl, X1, HMx1.out, HOx1.out.1, HOx1.out.2⟩, by rw [← HQ.out]; exact ⟨by omega, io.le HOK1.out (by omega)⟩⟩
  | true =>
    have hR := HR.out
    simp only [Bool.true_eq_false, if_false] at hR
    obtain ⟨⟨B, y2⟩, hy⟩ : ∃ z, io.bitAt (216 + st) (q != 1) y = z := ⟨_, rfl⟩
    obtain ⟨h1, ok1⟩ := bit_is io (HMx1.out.drewN 1) hy (at_ := 216) (j := st) (len := 12) (cp := 12) (b := C) (off := 224) rfl (k := k + 1) HOK1.out (Md.seg_head rfl (by omega)) HST.out (by omega) (by omega)
    simp only [hy] at hR
    have H1 := Lib.hid h1
    have HOK2 := Lib.hid ok1
    have HR2 := Lib.hid hR
    clear hy hR h1 ok1
    rw [show bitI true = 1 from rfl]
    have hdr := HMx1.out.mod.cells.2.2.2.1
    go_upto_region 4 with fail
    refine wp_region_held_drew (S := fun w2 => w2.cell? ⟨C, 3, none⟩ = some (.int .i64 (st : Nat))) (by kernel_rfl) hdr (fun hS => ?_)
    refine wpAnyH_take (i := 0) (oi := { dst := some 35, op := Op.move (Operand.tmp 1), type := 112, pos := "model.go:168", after := #[], guard := none }) (v := ?vwb14) rfl (by kernel_rfl) (by kernel_rfl) (by kernel_rfl) (fun _ _ _ h => h) (Or.inl ⟨by rfl, ?ywb14⟩) hS ?_
    case ywb14 =>
      intro w hSw
      go_simp; all_goals (with_reducible rfl)
    simp only [Act.put, List.setIfInBounds_toArray, List.set_cons_zero, List.set_cons_succ]
    refine wpAnyH_take (i := 1) (oi := { dst := some 36, op := Op.move (Operand.tmp 0), type := 38, pos := "model.go:168", after := #[], guard := none }) (v := ?vwb15) rfl (by kernel_rfl) (by kernel_rfl) (by kernel_rfl) (fun _ _ _ h => h) (Or.inl ⟨by rfl, ?ywb15⟩) hS ?_
    case ywb15 =>
      intro w hSw
      go_simp; all_goals (with_reducible rfl)
    simp only [Act.put, List.setIfInBounds_toArray, List.set_cons_zero, List.set_cons_succ]
    refine wpAnyH_take (i := 2) (oi := { dst := some 37, op := Op.nilCheck (Operand.tmp 36), type := 0, pos := "model.go:168", after := #[{ on := 1, ground := Ground.data }], guard := none }) (v := ?vwb16) rfl (by kernel_rfl) (by kernel_rfl) (by kernel_rfl) (fun _ _ _ h => h) (Or.inl ⟨by rfl, ?ywb16⟩) hS ?_
    case ywb16 =>
      intro w hSw
      go_simp; all_goals (with_reducible rfl)
    simp only [Act.put, List.setIfInBounds_toArray, List.set_cons_zero, List.set_cons_succ]
    refine wpAnyH_take (i := 3) (oi := { dst := some 38, op := Op.fieldAddr 79 (Operand.tmp 37) 8, type := 0, pos := "model.go:168", after := #[{ on := 2, ground := Ground.data }], guard := none }) (v := ?vwb17) rfl (by kernel_rfl) (by kernel_rfl) (by kernel_rfl) (fun _ _ _ h => h) (Or.inl ⟨by rfl, ?ywb17⟩) hS ?_
    case ywb17 =>
      intro w hSw
      go_simp; all_goals (with_reducible rfl)
    simp only [Act.put, List.setIfInBounds_toArray, List.set_cons_zero, List.set_cons_succ]
    refine wpAnyH_take (i := 4) (oi := { dst := some 39, op := Op.slice 64 (Operand.tmp 38) none none none, type := 114, pos := "model.go:168", after := #[{ on := 3, ground := Ground.data }], guard := none }) (v := ?vwb18) rfl (by kernel_rfl) (by kernel_rfl) (by kernel_rfl) (fun _ _ _ h => h) (Or.inl ⟨by rfl, ?ywb18⟩) hS ?_
    case ywb18 =>
      intro w hSw
      go_simp; all_goals (with_reducible rfl)
    simp only [Act.put, List.setIfInBounds_toArray, List.set_cons_zero, List.set_cons_succ]
    refine wpAnyH_take (i := 5) (oi := { dst := some 40, op := Op.move (Operand.tmp 0), type := 38, pos := "model.go:168", after := #[], guard := none }) (v := ?vwb19) rfl (by kernel_rfl) (by kernel_rfl) (by kernel_rfl) (fun _ _ _ h => h) (Or.inl ⟨by rfl, ?ywb19⟩) hS ?_
    case ywb19 =>
      intro w hSw
      go_simp; all_goals (with_reducible rfl)
    simp only [Act.put, List.setIfInBounds_toArray, List.set_cons_zero, List.set_cons_succ]
    refine wpAnyH_take (i := 6) (oi := { dst := some 41, op := Op.nilCheck (Operand.tmp 40), type := 0, pos := "model.go:168", after := #[{ on := 5, ground := Ground.data }], guard := none }) (v := ?vwb20) rfl (by kernel_rfl) (by kernel_rfl) (by kernel_rfl) (fun _ _ _ h => h) (Or.inl ⟨by rfl, ?ywb20⟩) hS ?_
    case ywb20 =>
      intro w hSw
      go_simp; all_goals (with_reducible rfl)
    simp only [Act.put, List.setIfInBounds_toArray, List.set_cons_zero, List.set_cons_succ]
    refine wpAnyH_take (i := 7) (oi := { dst := some 42, op := Op.fieldAddr 79 (Operand.tmp 41) 3, type := 0, pos := "model.go:168", after := #[{ on := 6, ground := Ground.data }], guard := none }) (v := ?vwb21) rfl (by kernel_rfl) (by kernel_rfl) (by kernel_rfl) (fun _ _ _ h => h) (Or.inl ⟨by rfl, ?ywb21⟩) hS ?_
    case ywb21 =>
      intro w hSw
      go_simp; all_goals (with_reducible rfl)
    simp only [Act.put, List.setIfInBounds_toArray, List.set_cons_zero, List.set_cons_succ]
    refine wpAnyH_take (i := 8) (oi := { dst := some 43, op := Op.load 3 (Operand.tmp 42), type := 3, pos := "model.go:168", after := #[{ on := 7, ground := Ground.data }], guard := none }) (v := ?vwb22) rfl (by kernel_rfl) (by kernel_rfl) (by kernel_rfl) (fun _ _ _ h => h) (Or.inl ⟨by rfl, ?ywb22⟩) hS ?_
    case ywb22 =>
      intro w hSw
      have q1 := hSw
      go_simp; all_goals (with_reducible rfl)
    simp only [Act.put, List.setIfInBounds_toArray, List.set_cons_zero, List.set_cons_succ]
    refine wpAnyH_take (i := 9) (oi := { dst := some 44, op := Op.move (Operand.tmp 2), type := 3, pos := "model.go:168", after := #[], guard := none }) (v := ?vwb23) rfl (by kernel_rfl) (by kernel_rfl) (by kernel_rfl) (fun _ _ _ h => h) (Or.inl ⟨by rfl, ?ywb23⟩) hS ?_
    case ywb23 =>
      intro w hSw
      go_simp; all_goals (with_reducible rfl)
    simp only [Act.put, List.setIfInBounds_toArray, List.set_cons_zero, List.set_cons_succ]
    refine wpAnyH_take (i := 10) (oi := { dst := some 45, op := Op.binOp BinOp.neq 3 (Operand.tmp 44) (Operand.const (Value.int IntKind.i64 1)) 3, type := 4, pos := "model.go:168", after := #[{ on := 9, ground := Ground.data }], guard := none }) (v := ?vwb24) rfl (by kernel_rfl) (by kernel_rfl) (by kernel_rfl) (fun _ _ _ h => h) (Or.inl ⟨by rfl, ?ywb24⟩) hS ?_
    case ywb24 =>
      intro w hSw
      go_simp; all_goals (with_reducible rfl)
    simp only [Act.put, List.setIfInBounds_toArray, List.set_cons_zero, List.set_cons_succ]
    refine wpAnyH_ready (rs := [11]) (by kernel_rfl) (by simp) ?_
    refine (AllReadyH.cons (o := { dst := some 46, op := Op.call { callee := Callee.value (Operand.func 41), args := #[Operand.tmp 35, Operand.tmp 39, Operand.tmp 43, Operand.tmp 45], argTypes := #[112, 114, 3, 4] }, type := 3, pos := "model.go:168", after := #[{ on := 0, ground := Ground.data }, { on := 4, ground := Ground.data }, { on := 8, ground := Ground.data }, { on := 10, ground := Ground.data }], guard := none }) rfl (fun K hK => ?_) AllReadyH.nil)
    go_simp
    refine H1.out.mono ?_
    rintro e x2 ⟨rfl, hwx2⟩
    obtain ⟨X2, hMx2, honx2, hXx2⟩ := went_trans_undrew HOx1.out hwx2
    have HMx2 := Lib.hid hMx2
    have HOx2 := Lib.hid (And.intro honx2 hXx2)
    have gx2 := hMx2.mod.cells.2.2.2.1
    clear hMx2 honx2 hXx2 hwx2
    go_wp2_with fail
    refine hK.out _ _ gx2 (fun _ => ?_)
    clear hK K
    refine wpAnyH_take (i := 12) (oi := { dst := some 47, op := Op.binOp BinOp.eql 3 (Operand.tmp 46) (Operand.const (Value.int IntKind.i64 0)) 3, type := 4, pos := "model.go:168", after := #[{ on := 11, ground := Ground.data }], guard := none }) (v := ?vwb25) rfl (by kernel_rfl) (by kernel_rfl) (by kernel_rfl) (fun _ _ _ h => h) (Or.inl ⟨by rfl, ?ywb25⟩) gx2 ?_
    case ywb25 =>
      intro w hSw
      go_simp; all_goals (with_reducible rfl)
    simp only [Act.put, List.setIfInBounds_toArray, List.set_cons_zero, List.set_cons_succ]
    refine wpAnyH_take (i := 13) (oi := { dst := some 34, op := Op.assign (Operand.tmp 47), type := 4, pos := "model.go:168", after := #[{ on := 12, ground := Ground.data }, { on := 11, ground := Ground.chain }], guard := none }) (v := ?vwb26) rfl (by kernel_rfl) (by kernel_rfl) (by kernel_rfl) (fun _ _ _ h => h) (Or.inl ⟨by rfl, ?ywb26⟩) gx2 ?_
    case ywb26 =>
      intro w hSw
      go_simp; all_goals (with_reducible rfl)
    simp only [Act.put, List.setIfInBounds_toArray, List.set_cons_zero, List.set_cons_succ]
    refine wpAnyH_done (by kernel_rfl) ?_ _

    clear hS hdr H1
    cases B with
    | false =>
      have hR := HR2.out
      simp only [if_true] at hR
      injection hR with hR1 hR2
      have HRE := Lib.hid (And.intro hR1.symm hR2.symm)
      clear hR1 hR2
      rw [show bitI false = 0 from rfl]
      go_wp2_with fail
      go_ret
      obtain ⟨e1, e2⟩ := HRE.out
      subst e1 e2
      exact ⟨⟨rfl, X2, HMx2.out, HOx2.out.1, HOx2.out.2⟩, by rw [← HQ.out]; exact ⟨by omega, io.le HOK2.out (by omega)⟩⟩
    | true =>
      have hR := HR2.out
      simp only [Bool.true_eq_false, if_false] at hR
      obtain ⟨⟨D, y3⟩, hy⟩ : ∃ z, io.bitAt (228 + st) (q != 2) y2 = z := ⟨_, rfl⟩
      obtain ⟨h1, ok1⟩ := bit_is io (HMx2.out.drewN 1) hy (at_ := 228) (j := st) (len := 12) (cp := 12) (b := C) (off := 236) rfl (k := k) HOK2.out (Md.seg_head rfl (by omega)) HST.out (by omega) (by omega)
      simp only [hy] at hR
      injection hR with hR1 hR2
      have HRE := Lib.hid (And.intro hR1.symm hR2.symm)
      have H1 := Lib.hid h1
      have HOK3 := Lib.hid ok1
      clear hy hR1 hR2 h1 ok1
      rw [show bitI true = 1 from rfl]
      have hdr := HMx2.out.mod.cells.2.2.2.1
      go_upto_region 1 with fail
      refine wp_region_held_drew (S := fun w2 => w2.cell? ⟨C, 3, none⟩ = some (.int .i64 (st : Nat))) (by kernel_rfl) hdr (fun hS => ?_)
      refine wpAnyH_take (i := 0) (oi := { dst := some 7, op := Op.move (Operand.tmp 1), type := 112, pos := "model.go:171", after := #[], guard := none }) (v := ?vwc27) rfl (by kernel_rfl) (by kernel_rfl) (by kernel_rfl) (fun _ _ _ h => h) (Or.inl ⟨by rfl, ?ywc27⟩) hS ?_
      case ywc27 =>
        intro w hSw
        go_simp; all_goals (with_reducible rfl)
      simp only [Act.put, List.setIfInBounds_toArray, List.set_cons_zero, List.set_cons_succ]
      refine wpAnyH_take (i := 1) (oi := { dst := some 8, op := Op.move (Operand.tmp 0), type := 38, pos := "model.go:171", after := #[], guard := none }) (v := ?vwc28) rfl (by kernel_rfl) (by kernel_rfl) (by kernel_rfl) (fun _ _ _ h => h) (Or.inl ⟨by rfl, ?ywc28⟩) hS ?_
      case ywc28 =>
        intro w hSw
        go_simp; all_goals (with_reducible rfl)
      simp only [Act.put, List.setIfInBounds_toArray, List.set_cons_zero, List.set_cons_succ]
      refine wpAnyH_take (i := 2) (oi := { dst := some 9, op := Op.nilCheck (Operand.tmp 8), type := 0, pos := "model.go:171", after := #[{ on := 1, ground := Ground.data }], guard := none }) (v := ?vwc29) rfl (by kernel_rfl) (by kernel_rfl) (by kernel_rfl) (fun _ _ _ h => h) (Or.inl ⟨by rfl, ?ywc29⟩) hS ?_
      case ywc29 =>
        intro w hSw
        go_simp; all_goals (with_reducible rfl)
      simp only [Act.put, List.setIfInBounds_toArray, List.set_cons_zero, List.set_cons_succ]
      refine wpAnyH_take (i := 3) (oi := { dst := some 10, op := Op.fieldAddr 79 (Operand.tmp 9) 9, type := 0, pos := "model.go:171", after := #[{ on := 2, ground := Ground.data }], guard := none }) (v := ?vwc30) rfl (by kernel_rfl) (by kernel_rfl) (by kernel_rfl) (fun _ _ _ h => h) (Or.inl ⟨by rfl, ?ywc30⟩) hS ?_
      case ywc30 =>
        intro w hSw
        go_simp; all_goals (with_reducible rfl)
      simp only [Act.put, List.setIfInBounds_toArray, List.set_cons_zero, List.set_cons_succ]
      refine wpAnyH_take (i := 4) (oi := { dst := some 11, op := Op.slice 64 (Operand.tmp 10) none none none, type := 114, pos := "model.go:171", after := #[{ on := 3, ground := Ground.data }], guard := none }) (v := ?vwc31) rfl (by kernel_rfl) (by kernel_rfl) (by kernel_rfl) (fun _ _ _ h => h) (Or.inl ⟨by rfl, ?ywc31⟩) hS ?_
      case ywc31 =>
        intro w hSw
        go_simp; all_goals (with_reducible rfl)
      simp only [Act.put, List.setIfInBounds_toArray, List.set_cons_zero, List.set_cons_succ]
      refine wpAnyH_take (i := 5) (oi := { dst := some 12, op := Op.move (Operand.tmp 0), type := 38, pos := "model.go:171", after := #[], guard := none }) (v := ?vwc32) rfl (by kernel_rfl) (by kernel_rfl) (by kernel_rfl) (fun _ _ _ h => h) (Or.inl ⟨by rfl, ?ywc32⟩) hS ?_
      case ywc32 =>
        intro w hSw
        go_simp; all_goals (with_reducible rfl)
      simp only [Act.put, List.setIfInBounds_toArray, List.set_cons_zero, List.set_cons_succ]
      refine wpAnyH_take (i := 6) (oi := { dst := some 13, op := Op.nilCheck (Operand.tmp 12), type := 0, pos := "model.go:171", after := #[{ on := 5, ground := Ground.data }], guard := none }) (v := ?vwc33) rfl (by kernel_rfl) (by kernel_rfl) (by kernel_rfl) (fun _ _ _ h => h) (Or.inl ⟨by rfl, ?ywc33⟩) hS ?_
      case ywc33 =>
        intro w hSw
        go_simp; all_goals (with_reducible rfl)
      simp only [Act.put, List.setIfInBounds_toArray, List.set_cons_zero, List.set_cons_succ]
      refine wpAnyH_take (i := 7) (oi := { dst := some 14, op := Op.fieldAddr 79 (Operand.tmp 13) 3, type := 0, pos := "model.go:171", after := #[{ on := 6, ground := Ground.data }], guard := none }) (v := ?vwc34) rfl (by kernel_rfl) (by kernel_rfl) (by kernel_rfl) (fun _ _ _ h => h) (Or.inl ⟨by rfl, ?ywc34⟩) hS ?_
      case ywc34 =>
        intro w hSw
        go_simp; all_goals (with_reducible rfl)
      simp only [Act.put, List.setIfInBounds_toArray, List.set_cons_zero, List.set_cons_succ]
      refine wpAnyH_take (i := 8) (oi := { dst := some 15, op := Op.load 3 (Operand.tmp 14), type := 3, pos := "model.go:171", after := #[{ on := 7, ground := Ground.data }], guard := none }) (v := ?vwc35) rfl (by kernel_rfl) (by kernel_rfl) (by kernel_rfl) (fun _ _ _ h => h) (Or.inl ⟨by rfl, ?ywc35⟩) hS ?_
      case ywc35 =>
        intro w hSw
        have q1 := hSw
        go_simp; all_goals (with_reducible rfl)
      simp only [Act.put, List.setIfInBounds_toArray, List.set_cons_zero, List.set_cons_succ]
      refine wpAnyH_take (i := 9) (oi := { dst := some 16, op := Op.move (Operand.tmp 2), type := 3, pos := "model.go:171", after := #[], guard := none }) (v := ?vwc36) rfl (by kernel_rfl) (by kernel_rfl) (by kernel_rfl) (fun _ _ _ h => h) (Or.inl ⟨by rfl, ?ywc36⟩) hS ?_
      case ywc36 =>
        intro w hSw
        go_simp; all_goals (with_reducible rfl)
      simp only [Act.put, List.setIfInBounds_toArray, List.set_cons_zero, List.set_cons_succ]
      refine wpAnyH_take (i := 10) (oi := { dst := some 17, op := Op.binOp BinOp.neq 3 (Operand.tmp 16) (Operand.const (Value.int IntKind.i64 2)) 3, type := 4, pos := "model.go:171", after := #[{ on := 9, ground := Ground.data }], guard := none }) (v := ?vwc37) rfl (by kernel_rfl) (by kernel_rfl) (by kernel_rfl) (fun _ _ _ h => h) (Or.inl ⟨by rfl, ?ywc37⟩) hS ?_
      case ywc37 =>
        intro w hSw
        go_simp; all_goals (with_reducible rfl)
      simp only [Act.put, List.setIfInBounds_toArray, List.set_cons_zero, List.set_cons_succ]
      refine wpAnyH_ready (rs := [11]) (by kernel_rfl) (by simp) ?_
      refine (AllReadyH.cons (o := { dst := some 18, op := Op.call { callee := Callee.value (Operand.func 41), args := #[Operand.tmp 7, Operand.tmp 11, Operand.tmp 15, Operand.tmp 17], argTypes := #[112, 114, 3, 4] }, type := 3, pos := "model.go:171", after := #[{ on := 0, ground := Ground.data }, { on := 4, ground := Ground.data }, { on := 8, ground := Ground.data }, { on := 10, ground := Ground.data }], guard := none }) rfl (fun K hK => ?_) AllReadyH.nil)
      go_simp
      refine H1.out.mono ?_
      rintro e x3 ⟨rfl, hwx3⟩
      obtain ⟨X3, hMx3, honx3, hXx3⟩ := went_trans_undrew HOx2.out hwx3
      have HMx3 := Lib.hid hMx3
      have HOx3 := Lib.hid (And.intro honx3 hXx3)
      have gx3 := hMx3.mod.cells.2.2.2.1
      clear hMx3 honx3 hXx3 hwx3
      go_wp2_with fail
      refine hK.out _ _ gx3 (fun _ => ?_)
      clear hK K
      refine wpAnyH_take (i := 12) (oi := { dst := some 19, op := Op.binOp BinOp.add 3 (Operand.const (Value.int IntKind.i64 2)) (Operand.tmp 18) 3, type := 3, pos := "model.go:171", after := #[{ on := 11, ground := Ground.data }], guard := none }) (v := ?vwc38) rfl (by kernel_rfl) (by kernel_rfl) (by kernel_rfl) (fun _ _ _ h => h) (Or.inl ⟨by rfl, ?ywc38⟩) gx3 ?_
      case ywc38 =>
        intro w hSw
        go_simp; all_goals (with_reducible rfl)
      simp only [Act.put, List.setIfInBounds_toArray, List.set_cons_zero, List.set_cons_succ]
      refine wpAnyH_take (i := 13) (oi := { dst := some 6, op := Op.assign (Operand.tmp 19), type := 3, pos := "model.go:171", after := #[{ on := 12, ground := Ground.data }, { on := 11, ground := Ground.chain }, { on := 0, ground := Ground.phase }, { on := 1, ground := Ground.phase }, { on := 2, ground := Ground.phase }, { on := 3, ground := Ground.phase }, { on := 4, ground := Ground.phase }, { on := 5, ground := Ground.phase }, { on := 6, ground := Ground.phase }, { on := 7, ground := Ground.phase }, { on := 8, ground := Ground.phase }, { on := 9, ground := Ground.phase }, { on := 10, ground := Ground.phase }, { on := 11, ground := Ground.phase }, { on := 12, ground := Ground.phase }], guard := none }) (v := ?vwc39) rfl (by kernel_rfl) (by kernel_rfl) (by kernel_rfl) (fun _ _ _ h => h) (Or.inl ⟨by rfl, ?ywc39⟩) gx3 ?_
      case ywc39 =>
        intro w hSw
        go_simp; all_goals (with_reducible rfl)
      simp only [Act.put, List.setIfInBounds_toArray, List.set_cons_zero, List.set_cons_succ]
      refine wpAnyH_done (by kernel_rfl) ?_ _

      clear hS hdr H1
      have hB : bitI D = (D.toNat : Int) := by cases D <;> rfl
      have hBl : D.toNat ≤ 1 := by cases D <;> decide
      go_wp2_with fail
      go_ret
      obtain ⟨e1, e2⟩ := HRE.out
      subst e1 e2
      refine ⟨⟨?_, X3, HMx3.out, HOx3.out.1, HOx3.out.2⟩, by rw [← HQ.out]; exact ⟨by omega, HOK3.out⟩⟩
      refine congrArg (fun n : Int => Ending.returned (Value.int .i64 n)) ?_
      simp only [hB, IntKind.wrap_i64]
      omega
end Go.Proofs.Ytklkboplkobhgaa
