/- Several texts in one: MdRept, MdRept2. -/
import Derived.Test.YtklkboplkobhgaaGreatMdMatch
/- The model's repeat. -/
namespace Go.Proofs.YtklkboplkobhgaaGreat
set_option maxRecDepth 100000
open Go.RowKit

theorem went_trans_undrew {io : Io} {C L lc lp pb st' : Nat} {r' : R4} {x' : io.S} {X X1 : List Nat} {w w1 w2 : World} {n : Nat} (ho : Only (C :: L :: X) w w1 ∧ ∀ i ∈ X1, i ∈ X ∨ w.heap.size ≤ i) (h : Went io C L lc lp pb st' r' x' X1 (w1.drewN n) w2) : Went io C L lc lp pb st' r' x' X w w2 := Went.trans ho.1 ho.2 (went_undrew h)
namespace Md
def which (io : Io) (st : Nat) (q : Int) (x : io.S) : Nat × io.S :=
  let a := io.bitAt (204 + st) (q != 0) x
  if a.1 = false then (0, a.2)
  else
    let b := io.bitAt (216 + st) (q != 1) a.2
    if b.1 = false then (1, b.2)
    else
      let c := io.bitAt (228 + st) (q != 2) b.2
      (2 + c.1.toNat, c.2)
/-- Which repeat, and its length. -/
def rept (io : Io) (st p : Nat) (l q : Int) (x : io.S) : (Nat × Nat) × io.S :=
  let w := which io st q x
  if w.1 = 0 then
    let s := io.bitAt (240 + 16 * st + p) (l != 1) w.2
    if s.1 = false then ((0, 1), s.2)
    else
      let n := len io 946 p l s.2
      ((0, n.1), n.2)
  else
    let n := len io 946 p l w.2
    ((w.1, n.1), n.2)
end Md
set_option maxRecDepth 100000 in
set_option maxHeartbeats 2000000 in
theorem which_is (io : Io) {C L lc lp pb st : Nat} {r : R4} {x : io.S} {X : List Nat} {w : World} (hM : MS io w C L lc lp pb st r x X) (hst : st < 12) {k wh : Nat} {q : Int} {Z : io.S} (hR : Md.which io st q x = (wh, Z)) (hok : io.ok x.2 (k + 3)) :
    Calls Tryz.prog 94 #[PF C, io.v, .int .i64 q] w (MAnd (wh ≤ 3 ∧ io.ok Z.2 k) (MDone (.int .i64 (wh : Nat)) io C L lc lp pb st r Z X w)) := by
  obtain ⟨Q, hQ⟩ : ∃ Q, (wh ≤ 3 ∧ io.ok Z.2 k) = Q := ⟨_, rfl⟩
  rw [hQ]
  have HQ := Lib.hid hQ
  have hsti : (st : Int) < 12 := by omega
  have HST := Lib.hid hst
  unfold Md.which at hR
  obtain ⟨⟨A, y⟩, hy⟩ : ∃ z, io.bitAt (204 + st) (q != 0) x = z := ⟨_, rfl⟩
  obtain ⟨h1, ok1⟩ := bit_is io (hM.drewN 1) hy (at_ := 204) (j := st) (len := 12) (cp := 12) (b := C) (off := 212) rfl (k := k + 2) hok (Md.seg_head rfl (by omega)) hst (by omega) (by omega)
  simp only [hy] at hR
  have H1 := Lib.hid h1
  have HOK1 := Lib.hid ok1
  have HR := Lib.hid hR
  have hon0 : Only (C :: L :: X) w w ∧ ∀ i ∈ X, i ∈ X ∨ w.heap.size ≤ i := ⟨Only.refl _ _, fun i hi => .inl hi⟩
  have HON0 := Lib.hid hon0
  have hdr := hM.mod.cells.2.2.2.1
  have hc3 := hdr
  clear hy hR h1 ok1 hok hQ hM hst hon0
  go_enter Tryz.func94, Tryz.ntmps94
  go_upto_region 2 with fail
  refine wp_region_held_drew (S := fun w2 => w2.cell? ⟨C, 3, none⟩ = some (.int .i64 (st : Nat))) (by kernel_rfl) hdr (fun hS => ?_)
  refine wpAnyH_take (i := 0) (oi := { dst := some 21, op := Op.move (Operand.tmp 1), type := 142, pos := "model.go:166", after := #[], guard := none }) (v := ?vwa1) rfl (by kernel_rfl) (by kernel_rfl) (by kernel_rfl) (fun _ _ _ h => h) (Or.inl ⟨by rfl, ?ywa1⟩) hS ?_
  case ywa1 =>
    intro w hSw
    go_simp; all_goals (with_reducible rfl)
  simp only [Act.put, List.setIfInBounds_toArray, List.set_cons_zero, List.set_cons_succ]
  refine wpAnyH_take (i := 1) (oi := { dst := some 22, op := Op.move (Operand.tmp 0), type := 39, pos := "model.go:166", after := #[], guard := none }) (v := ?vwa2) rfl (by kernel_rfl) (by kernel_rfl) (by kernel_rfl) (fun _ _ _ h => h) (Or.inl ⟨by rfl, ?ywa2⟩) hS ?_
  case ywa2 =>
    intro w hSw
    go_simp; all_goals (with_reducible rfl)
  simp only [Act.put, List.setIfInBounds_toArray, List.set_cons_zero, List.set_cons_succ]
  refine wpAnyH_take (i := 2) (oi := { dst := some 23, op := Op.nilCheck (Operand.tmp 22), type := 0, pos := "model.go:166", after := #[{ on := 1, ground := Ground.data }], guard := none }) (v := ?vwa3) rfl (by kernel_rfl) (by kernel_rfl) (by kernel_rfl) (fun _ _ _ h => h) (Or.inl ⟨by rfl, ?ywa3⟩) hS ?_
  case ywa3 =>
    intro w hSw
    go_simp; all_goals (with_reducible rfl)
  simp only [Act.put, List.setIfInBounds_toArray, List.set_cons_zero, List.set_cons_succ]
  refine wpAnyH_take (i := 3) (oi := { dst := some 24, op := Op.fieldAddr 83 (Operand.tmp 23) 7, type := 0, pos := "model.go:166", after := #[{ on := 2, ground := Ground.data }], guard := none }) (v := ?vwa4) rfl (by kernel_rfl) (by kernel_rfl) (by kernel_rfl) (fun _ _ _ h => h) (Or.inl ⟨by rfl, ?ywa4⟩) hS ?_
  case ywa4 =>
    intro w hSw
    go_simp; all_goals (with_reducible rfl)
  simp only [Act.put, List.setIfInBounds_toArray, List.set_cons_zero, List.set_cons_succ]
  refine wpAnyH_take (i := 4) (oi := { dst := some 25, op := Op.slice 68 (Operand.tmp 24) none none none, type := 85, pos := "model.go:166", after := #[{ on := 3, ground := Ground.data }], guard := none }) (v := ?vwa5) rfl (by kernel_rfl) (by kernel_rfl) (by kernel_rfl) (fun _ _ _ h => h) (Or.inl ⟨by rfl, ?ywa5⟩) hS ?_
  case ywa5 =>
    intro w hSw
    go_simp; all_goals (with_reducible rfl)
  simp only [Act.put, List.setIfInBounds_toArray, List.set_cons_zero, List.set_cons_succ]
  refine wpAnyH_take (i := 5) (oi := { dst := some 26, op := Op.move (Operand.tmp 0), type := 39, pos := "model.go:166", after := #[], guard := none }) (v := ?vwa6) rfl (by kernel_rfl) (by kernel_rfl) (by kernel_rfl) (fun _ _ _ h => h) (Or.inl ⟨by rfl, ?ywa6⟩) hS ?_
  case ywa6 =>
    intro w hSw
    go_simp; all_goals (with_reducible rfl)
  simp only [Act.put, List.setIfInBounds_toArray, List.set_cons_zero, List.set_cons_succ]
  refine wpAnyH_take (i := 6) (oi := { dst := some 27, op := Op.nilCheck (Operand.tmp 26), type := 0, pos := "model.go:166", after := #[{ on := 5, ground := Ground.data }], guard := none }) (v := ?vwa7) rfl (by kernel_rfl) (by kernel_rfl) (by kernel_rfl) (fun _ _ _ h => h) (Or.inl ⟨by rfl, ?ywa7⟩) hS ?_
  case ywa7 =>
    intro w hSw
    go_simp; all_goals (with_reducible rfl)
  simp only [Act.put, List.setIfInBounds_toArray, List.set_cons_zero, List.set_cons_succ]
  refine wpAnyH_take (i := 7) (oi := { dst := some 28, op := Op.fieldAddr 83 (Operand.tmp 27) 3, type := 0, pos := "model.go:166", after := #[{ on := 6, ground := Ground.data }], guard := none }) (v := ?vwa8) rfl (by kernel_rfl) (by kernel_rfl) (by kernel_rfl) (fun _ _ _ h => h) (Or.inl ⟨by rfl, ?ywa8⟩) hS ?_
  case ywa8 =>
    intro w hSw
    go_simp; all_goals (with_reducible rfl)
  simp only [Act.put, List.setIfInBounds_toArray, List.set_cons_zero, List.set_cons_succ]
  refine wpAnyH_take (i := 8) (oi := { dst := some 29, op := Op.load 3 (Operand.tmp 28), type := 3, pos := "model.go:166", after := #[{ on := 7, ground := Ground.data }], guard := none }) (v := ?vwa9) rfl (by kernel_rfl) (by kernel_rfl) (by kernel_rfl) (fun _ _ _ h => h) (Or.inl ⟨by rfl, ?ywa9⟩) hS ?_
  case ywa9 =>
    intro w hSw
    have q1 := hSw
    go_simp; all_goals (with_reducible rfl)
  simp only [Act.put, List.setIfInBounds_toArray, List.set_cons_zero, List.set_cons_succ]
  refine wpAnyH_take (i := 9) (oi := { dst := some 30, op := Op.move (Operand.tmp 2), type := 3, pos := "model.go:166", after := #[], guard := none }) (v := ?vwa10) rfl (by kernel_rfl) (by kernel_rfl) (by kernel_rfl) (fun _ _ _ h => h) (Or.inl ⟨by rfl, ?ywa10⟩) hS ?_
  case ywa10 =>
    intro w hSw
    go_simp; all_goals (with_reducible rfl)
  simp only [Act.put, List.setIfInBounds_toArray, List.set_cons_zero, List.set_cons_succ]
  refine wpAnyH_take (i := 10) (oi := { dst := some 31, op := Op.binOp BinOp.neq 3 (Operand.tmp 30) (Operand.const (Value.int IntKind.i64 0)) 3, type := 4, pos := "model.go:166", after := #[{ on := 9, ground := Ground.data }], guard := none }) (v := ?vwa11) rfl (by kernel_rfl) (by kernel_rfl) (by kernel_rfl) (fun _ _ _ h => h) (Or.inl ⟨by rfl, ?ywa11⟩) hS ?_
  case ywa11 =>
    intro w hSw
    go_simp; all_goals (with_reducible rfl)
  simp only [Act.put, List.setIfInBounds_toArray, List.set_cons_zero, List.set_cons_succ]
  refine wpAnyH_ready (rs := [11]) (by kernel_rfl) (by simp) ?_
  refine (AllReadyH.cons (o := { dst := some 32, op := Op.call { callee := Callee.value (Operand.func 75), args := #[Operand.tmp 21, Operand.tmp 25, Operand.tmp 29, Operand.tmp 31], argTypes := #[142, 85, 3, 4] }, type := 3, pos := "model.go:166", after := #[{ on := 0, ground := Ground.data }, { on := 4, ground := Ground.data }, { on := 8, ground := Ground.data }, { on := 10, ground := Ground.data }], guard := none }) rfl (fun K hK => ?_) AllReadyH.nil)
  go_simp
  refine H1.out.mono ?_
  rintro e x1 ⟨rfl, hwx1⟩
  obtain ⟨X1, hMx1, honx1, hXx1⟩ := went_trans_undrew HON0.out hwx1
  have HMx1 := Lib.hid hMx1
  have HOx1 := Lib.hid (And.intro honx1 hXx1)
  have gx1 := hMx1.mod.cells.2.2.2.1
  clear hMx1 honx1 hXx1 hwx1
  go_wp2_with fail
  refine hK.out _ _ gx1 (fun _ => ?_)
  clear hK K
  refine wpAnyH_take (i := 12) (oi := { dst := some 33, op := Op.binOp BinOp.eql 3 (Operand.tmp 32) (Operand.const (Value.int IntKind.i64 0)) 3, type := 4, pos := "model.go:166", after := #[{ on := 11, ground := Ground.data }], guard := none }) (v := ?vwa12) rfl (by kernel_rfl) (by kernel_rfl) (by kernel_rfl) (fun _ _ _ h => h) (Or.inl ⟨by rfl, ?ywa12⟩) gx1 ?_
  case ywa12 =>
    intro w hSw
    go_simp; all_goals (with_reducible rfl)
  simp only [Act.put, List.setIfInBounds_toArray, List.set_cons_zero, List.set_cons_succ]
  refine wpAnyH_take (i := 13) (oi := { dst := some 20, op := Op.assign (Operand.tmp 33), type := 4, pos := "model.go:166", after := #[{ on := 12, ground := Ground.data }, { on := 11, ground := Ground.chain }], guard := none }) (v := ?vwa13) rfl (by kernel_rfl) (by kernel_rfl) (by kernel_rfl) (fun _ _ _ h => h) (Or.inl ⟨by rfl, ?ywa13⟩) gx1 ?_
  case ywa13 =>
    intro w hSw
    go_simp; all_goals (with_reducible rfl)
  simp only [Act.put, List.setIfInBounds_toArray, List.set_cons_zero, List.set_cons_succ]
  refine wpAnyH_done (by kernel_rfl) ?_ _

  clear hS hdr hc3 H1
  cases A with
  | false =>
    have hR := HR.out
    simp only [if_true] at hR
    injection hR with hR1 hR2
    have HRE := Lib.hid (And.intro hR1.symm hR2.symm)
    clear hR1 hR2
    rw [show bitI false = 0 from rfl]
    go_wp2_with fail
    go_ret
    obtain ⟨e1, e2⟩ := HRE.out
    subst e1 e2
    exact ⟨⟨rfl, X1, HMx1.out, HOx1.out.1, HOx1.out.2⟩, by rw [← HQ.out]; exact ⟨by omega, io.le HOK1.out (by omega)⟩⟩
  | true =>
    have hR := HR.out
    simp only [Bool.true_eq_false, if_false] at hR
    obtain ⟨⟨B, y2⟩, hy⟩ : ∃ z, io.bitAt (216 + st) (q != 1) y = z := ⟨_, rfl⟩
    obtain ⟨h1, ok1⟩ := bit_is io (HMx1.out.drewN 1) hy (at_ := 216) (j := st) (len := 12) (cp := 12) (b := C) (off := 224) rfl (k := k + 1) HOK1.out (Md.seg_head rfl (by omega)) HST.out (by omega) (by omega)
    simp only [hy] at hR
    have H1 := Lib.hid h1
    have HOK2 := Lib.hid ok1
    have HR2 := Lib.hid hR
    clear hy hR h1 ok1
    rw [show bitI true = 1 from rfl]
    have hdr := HMx1.out.mod.cells.2.2.2.1
    go_upto_region 4 with fail
    refine wp_region_held_drew (S := fun w2 => w2.cell? ⟨C, 3, none⟩ = some (.int .i64 (st : Nat))) (by kernel_rfl) hdr (fun hS => ?_)
    refine wpAnyH_take (i := 0) (oi := { dst := some 35, op := Op.move (Operand.tmp 1), type := 142, pos := "model.go:168", after := #[], guard := none }) (v := ?vwb14) rfl (by kernel_rfl) (by kernel_rfl) (by kernel_rfl) (fun _ _ _ h => h) (Or.inl ⟨by rfl, ?ywb14⟩) hS ?_
    case ywb14 =>
      intro w hSw
      go_simp; all_goals (with_reducible rfl)
    simp only [Act.put, List.setIfInBounds_toArray, List.set_cons_zero, List.set_cons_succ]
    refine wpAnyH_take (i := 1) (oi := { dst := some 36, op := Op.move (Operand.tmp 0), type := 39, pos := "model.go:168", after := #[], guard := none }) (v := ?vwb15) rfl (by kernel_rfl) (by kernel_rfl) (by kernel_rfl) (fun _ _ _ h => h) (Or.inl ⟨by rfl, ?ywb15⟩) hS ?_
    case ywb15 =>
      intro w hSw
      go_simp; all_goals (with_reducible rfl)
    simp only [Act.put, List.setIfInBounds_toArray, List.set_cons_zero, List.set_cons_succ]
    refine wpAnyH_take (i := 2) (oi := { dst := some 37, op := Op.nilCheck (Operand.tmp 36), type := 0, pos := "model.go:168", after := #[{ on := 1, ground := Ground.data }], guard := none }) (v := ?vwb16) rfl (by kernel_rfl) (by kernel_rfl) (by kernel_rfl) (fun _ _ _ h => h) (Or.inl ⟨by rfl, ?ywb16⟩) hS ?_
    case ywb16 =>
      intro w hSw
      go_simp; all_goals (with_reducible rfl)
    simp only [Act.put, List.setIfInBounds_toArray, List.set_cons_zero, List.set_cons_succ]
    refine wpAnyH_take (i := 3) (oi := { dst := some 38, op := Op.fieldAddr 83 (Operand.tmp 37) 8, type := 0, pos := "model.go:168", after := #[{ on := 2, ground := Ground.data }], guard := none }) (v := ?vwb17) rfl (by kernel_rfl) (by kernel_rfl) (by kernel_rfl) (fun _ _ _ h => h) (Or.inl ⟨by rfl, ?ywb17⟩) hS ?_
    case ywb17 =>
      intro w hSw
      go_simp; all_goals (with_reducible rfl)
    simp only [Act.put, List.setIfInBounds_toArray, List.set_cons_zero, List.set_cons_succ]
    refine wpAnyH_take (i := 4) (oi := { dst := some 39, op := Op.slice 68 (Operand.tmp 38) none none none, type := 85, pos := "model.go:168", after := #[{ on := 3, ground := Ground.data }], guard := none }) (v := ?vwb18) rfl (by kernel_rfl) (by kernel_rfl) (by kernel_rfl) (fun _ _ _ h => h) (Or.inl ⟨by rfl, ?ywb18⟩) hS ?_
    case ywb18 =>
      intro w hSw
      go_simp; all_goals (with_reducible rfl)
    simp only [Act.put, List.setIfInBounds_toArray, List.set_cons_zero, List.set_cons_succ]
    refine wpAnyH_take (i := 5) (oi := { dst := some 40, op := Op.move (Operand.tmp 0), type := 39, pos := "model.go:168", after := #[], guard := none }) (v := ?vwb19) rfl (by kernel_rfl) (by kernel_rfl) (by kernel_rfl) (fun _ _ _ h => h) (Or.inl ⟨by rfl, ?ywb19⟩) hS ?_
    case ywb19 =>
      intro w hSw
      go_simp; all_goals (with_reducible rfl)
    simp only [Act.put, List.setIfInBounds_toArray, List.set_cons_zero, List.set_cons_succ]
    refine wpAnyH_take (i := 6) (oi := { dst := some 41, op := Op.nilCheck (Operand.tmp 40), type := 0, pos := "model.go:168", after := #[{ on := 5, ground := Ground.data }], guard := none }) (v := ?vwb20) rfl (by kernel_rfl) (by kernel_rfl) (by kernel_rfl) (fun _ _ _ h => h) (Or.inl ⟨by rfl, ?ywb20⟩) hS ?_
    case ywb20 =>
      intro w hSw
      go_simp; all_goals (with_reducible rfl)
    simp only [Act.put, List.setIfInBounds_toArray, List.set_cons_zero, List.set_cons_succ]
    refine wpAnyH_take (i := 7) (oi := { dst := some 42, op := Op.fieldAddr 83 (Operand.tmp 41) 3, type := 0, pos := "model.go:168", after := #[{ on := 6, ground := Ground.data }], guard := none }) (v := ?vwb21) rfl (by kernel_rfl) (by kernel_rfl) (by kernel_rfl) (fun _ _ _ h => h) (Or.inl ⟨by rfl, ?ywb21⟩) hS ?_
    case ywb21 =>
      intro w hSw
      go_simp; all_goals (with_reducible rfl)
    simp only [Act.put, List.setIfInBounds_toArray, List.set_cons_zero, List.set_cons_succ]
    refine wpAnyH_take (i := 8) (oi := { dst := some 43, op := Op.load 3 (Operand.tmp 42), type := 3, pos := "model.go:168", after := #[{ on := 7, ground := Ground.data }], guard := none }) (v := ?vwb22) rfl (by kernel_rfl) (by kernel_rfl) (by kernel_rfl) (fun _ _ _ h => h) (Or.inl ⟨by rfl, ?ywb22⟩) hS ?_
    case ywb22 =>
      intro w hSw
      have q1 := hSw
      go_simp; all_goals (with_reducible rfl)
    simp only [Act.put, List.setIfInBounds_toArray, List.set_cons_zero, List.set_cons_succ]
    refine wpAnyH_take (i := 9) (oi := { dst := some 44, op := Op.move (Operand.tmp 2), type := 3, pos := "model.go:168", after := #[], guard := none }) (v := ?vwb23) rfl (by kernel_rfl) (by kernel_rfl) (by kernel_rfl) (fun _ _ _ h => h) (Or.inl ⟨by rfl, ?ywb23⟩) hS ?_
    case ywb23 =>
      intro w hSw
      go_simp; all_goals (with_reducible rfl)
    simp only [Act.put, List.setIfInBounds_toArray, List.set_cons_zero, List.set_cons_succ]
    refine wpAnyH_take (i := 10) (oi := { dst := some 45, op := Op.binOp BinOp.neq 3 (Operand.tmp 44) (Operand.const (Value.int IntKind.i64 1)) 3, type := 4, pos := "model.go:168", after := #[{ on := 9, ground := Ground.data }], guard := none }) (v := ?vwb24) rfl (by kernel_rfl) (by kernel_rfl) (by kernel_rfl) (fun _ _ _ h => h) (Or.inl ⟨by rfl, ?ywb24⟩) hS ?_
    case ywb24 =>
      intro w hSw
      go_simp; all_goals (with_reducible rfl)
    simp only [Act.put, List.setIfInBounds_toArray, List.set_cons_zero, List.set_cons_succ]
    refine wpAnyH_ready (rs := [11]) (by kernel_rfl) (by simp) ?_
    refine (AllReadyH.cons (o := { dst := some 46, op := Op.call { callee := Callee.value (Operand.func 75), args := #[Operand.tmp 35, Operand.tmp 39, Operand.tmp 43, Operand.tmp 45], argTypes := #[142, 85, 3, 4] }, type := 3, pos := "model.go:168", after := #[{ on := 0, ground := Ground.data }, { on := 4, ground := Ground.data }, { on := 8, ground := Ground.data }, { on := 10, ground := Ground.data }], guard := none }) rfl (fun K hK => ?_) AllReadyH.nil)
    go_simp
    refine H1.out.mono ?_
    rintro e x2 ⟨rfl, hwx2⟩
    obtain ⟨X2, hMx2, honx2, hXx2⟩ := went_trans_undrew HOx1.out hwx2
    have HMx2 := Lib.hid hMx2
    have HOx2 := Lib.hid (And.intro honx2 hXx2)
    have gx2 := hMx2.mod.cells.2.2.2.1
    clear hMx2 honx2 hXx2 hwx2
    go_wp2_with fail
    refine hK.out _ _ gx2 (fun _ => ?_)
    clear hK K
    refine wpAnyH_take (i := 12) (oi := { dst := some 47, op := Op.binOp BinOp.eql 3 (Operand.tmp 46) (Operand.const (Value.int IntKind.i64 0)) 3, type := 4, pos := "model.go:168", after := #[{ on := 11, ground := Ground.data }], guard := none }) (v := ?vwb25) rfl (by kernel_rfl) (by kernel_rfl) (by kernel_rfl) (fun _ _ _ h => h) (Or.inl ⟨by rfl, ?ywb25⟩) gx2 ?_
    case ywb25 =>
      intro w hSw
      go_simp; all_goals (with_reducible rfl)
    simp only [Act.put, List.setIfInBounds_toArray, List.set_cons_zero, List.set_cons_succ]
    refine wpAnyH_take (i := 13) (oi := { dst := some 34, op := Op.assign (Operand.tmp 47), type := 4, pos := "model.go:168", after := #[{ on := 12, ground := Ground.data }, { on := 11, ground := Ground.chain }], guard := none }) (v := ?vwb26) rfl (by kernel_rfl) (by kernel_rfl) (by kernel_rfl) (fun _ _ _ h => h) (Or.inl ⟨by rfl, ?ywb26⟩) gx2 ?_
    case ywb26 =>
      intro w hSw
      go_simp; all_goals (with_reducible rfl)
    simp only [Act.put, List.setIfInBounds_toArray, List.set_cons_zero, List.set_cons_succ]
    refine wpAnyH_done (by kernel_rfl) ?_ _

    clear hS hdr H1
    cases B with
    | false =>
      have hR := HR2.out
      simp only [if_true] at hR
      injection hR with hR1 hR2
      have HRE := Lib.hid (And.intro hR1.symm hR2.symm)
      clear hR1 hR2
      rw [show bitI false = 0 from rfl]
      go_wp2_with fail
      go_ret
      obtain ⟨e1, e2⟩ := HRE.out
      subst e1 e2
      exact ⟨⟨rfl, X2, HMx2.out, HOx2.out.1, HOx2.out.2⟩, by rw [← HQ.out]; exact ⟨by omega, io.le HOK2.out (by omega)⟩⟩
    | true =>
      have hR := HR2.out
      simp only [Bool.true_eq_false, if_false] at hR
      obtain ⟨⟨D, y3⟩, hy⟩ : ∃ z, io.bitAt (228 + st) (q != 2) y2 = z := ⟨_, rfl⟩
      obtain ⟨h1, ok1⟩ := bit_is io (HMx2.out.drewN 1) hy (at_ := 228) (j := st) (len := 12) (cp := 12) (b := C) (off := 236) rfl (k := k) HOK2.out (Md.seg_head rfl (by omega)) HST.out (by omega) (by omega)
      simp only [hy] at hR
      injection hR with hR1 hR2
      have HRE := Lib.hid (And.intro hR1.symm hR2.symm)
      have H1 := Lib.hid h1
      have HOK3 := Lib.hid ok1
      clear hy hR1 hR2 h1 ok1
      rw [show bitI true = 1 from rfl]
      have hdr := HMx2.out.mod.cells.2.2.2.1
      go_upto_region 1 with fail
      refine wp_region_held_drew (S := fun w2 => w2.cell? ⟨C, 3, none⟩ = some (.int .i64 (st : Nat))) (by kernel_rfl) hdr (fun hS => ?_)
      refine wpAnyH_take (i := 0) (oi := { dst := some 7, op := Op.move (Operand.tmp 1), type := 142, pos := "model.go:171", after := #[], guard := none }) (v := ?vwc27) rfl (by kernel_rfl) (by kernel_rfl) (by kernel_rfl) (fun _ _ _ h => h) (Or.inl ⟨by rfl, ?ywc27⟩) hS ?_
      case ywc27 =>
        intro w hSw
        go_simp; all_goals (with_reducible rfl)
      simp only [Act.put, List.setIfInBounds_toArray, List.set_cons_zero, List.set_cons_succ]
      refine wpAnyH_take (i := 1) (oi := { dst := some 8, op := Op.move (Operand.tmp 0), type := 39, pos := "model.go:171", after := #[], guard := none }) (v := ?vwc28) rfl (by kernel_rfl) (by kernel_rfl) (by kernel_rfl) (fun _ _ _ h => h) (Or.inl ⟨by rfl, ?ywc28⟩) hS ?_
      case ywc28 =>
        intro w hSw
        go_simp; all_goals (with_reducible rfl)
      simp only [Act.put, List.setIfInBounds_toArray, List.set_cons_zero, List.set_cons_succ]
      refine wpAnyH_take (i := 2) (oi := { dst := some 9, op := Op.nilCheck (Operand.tmp 8), type := 0, pos := "model.go:171", after := #[{ on := 1, ground := Ground.data }], guard := none }) (v := ?vwc29) rfl (by kernel_rfl) (by kernel_rfl) (by kernel_rfl) (fun _ _ _ h => h) (Or.inl ⟨by rfl, ?ywc29⟩) hS ?_
      case ywc29 =>
        intro w hSw
        go_simp; all_goals (with_reducible rfl)
      simp only [Act.put, List.setIfInBounds_toArray, List.set_cons_zero, List.set_cons_succ]
      refine wpAnyH_take (i := 3) (oi := { dst := some 10, op := Op.fieldAddr 83 (Operand.tmp 9) 9, type := 0, pos := "model.go:171", after := #[{ on := 2, ground := Ground.data }], guard := none }) (v := ?vwc30) rfl (by kernel_rfl) (by kernel_rfl) (by kernel_rfl) (fun _ _ _ h => h) (Or.inl ⟨by rfl, ?ywc30⟩) hS ?_
      case ywc30 =>
        intro w hSw
        go_simp; all_goals (with_reducible rfl)
      simp only [Act.put, List.setIfInBounds_toArray, List.set_cons_zero, List.set_cons_succ]
      refine wpAnyH_take (i := 4) (oi := { dst := some 11, op := Op.slice 68 (Operand.tmp 10) none none none, type := 85, pos := "model.go:171", after := #[{ on := 3, ground := Ground.data }], guard := none }) (v := ?vwc31) rfl (by kernel_rfl) (by kernel_rfl) (by kernel_rfl) (fun _ _ _ h => h) (Or.inl ⟨by rfl, ?ywc31⟩) hS ?_
      case ywc31 =>
        intro w hSw
        go_simp; all_goals (with_reducible rfl)
      simp only [Act.put, List.setIfInBounds_toArray, List.set_cons_zero, List.set_cons_succ]
      refine wpAnyH_take (i := 5) (oi := { dst := some 12, op := Op.move (Operand.tmp 0), type := 39, pos := "model.go:171", after := #[], guard := none }) (v := ?vwc32) rfl (by kernel_rfl) (by kernel_rfl) (by kernel_rfl) (fun _ _ _ h => h) (Or.inl ⟨by rfl, ?ywc32⟩) hS ?_
      case ywc32 =>
        intro w hSw
        go_simp; all_goals (with_reducible rfl)
      simp only [Act.put, List.setIfInBounds_toArray, List.set_cons_zero, List.set_cons_succ]
      refine wpAnyH_take (i := 6) (oi := { dst := some 13, op := Op.nilCheck (Operand.tmp 12), type := 0, pos := "model.go:171", after := #[{ on := 5, ground := Ground.data }], guard := none }) (v := ?vwc33) rfl (by kernel_rfl) (by kernel_rfl) (by kernel_rfl) (fun _ _ _ h => h) (Or.inl ⟨by rfl, ?ywc33⟩) hS ?_
      case ywc33 =>
        intro w hSw
        go_simp; all_goals (with_reducible rfl)
      simp only [Act.put, List.setIfInBounds_toArray, List.set_cons_zero, List.set_cons_succ]
      refine wpAnyH_take (i := 7) (oi := { dst := some 14, op := Op.fieldAddr 83 (Operand.tmp 13) 3, type := 0, pos := "model.go:171", after := #[{ on := 6, ground := Ground.data }], guard := none }) (v := ?vwc34) rfl (by kernel_rfl) (by kernel_rfl) (by kernel_rfl) (fun _ _ _ h => h) (Or.inl ⟨by rfl, ?ywc34⟩) hS ?_
      case ywc34 =>
        intro w hSw
        go_simp; all_goals (with_reducible rfl)
      simp only [Act.put, List.setIfInBounds_toArray, List.set_cons_zero, List.set_cons_succ]
      refine wpAnyH_take (i := 8) (oi := { dst := some 15, op := Op.load 3 (Operand.tmp 14), type := 3, pos := "model.go:171", after := #[{ on := 7, ground := Ground.data }], guard := none }) (v := ?vwc35) rfl (by kernel_rfl) (by kernel_rfl) (by kernel_rfl) (fun _ _ _ h => h) (Or.inl ⟨by rfl, ?ywc35⟩) hS ?_
      case ywc35 =>
        intro w hSw
        have q1 := hSw
        go_simp; all_goals (with_reducible rfl)
      simp only [Act.put, List.setIfInBounds_toArray, List.set_cons_zero, List.set_cons_succ]
      refine wpAnyH_take (i := 9) (oi := { dst := some 16, op := Op.move (Operand.tmp 2), type := 3, pos := "model.go:171", after := #[], guard := none }) (v := ?vwc36) rfl (by kernel_rfl) (by kernel_rfl) (by kernel_rfl) (fun _ _ _ h => h) (Or.inl ⟨by rfl, ?ywc36⟩) hS ?_
      case ywc36 =>
        intro w hSw
        go_simp; all_goals (with_reducible rfl)
      simp only [Act.put, List.setIfInBounds_toArray, List.set_cons_zero, List.set_cons_succ]
      refine wpAnyH_take (i := 10) (oi := { dst := some 17, op := Op.binOp BinOp.neq 3 (Operand.tmp 16) (Operand.const (Value.int IntKind.i64 2)) 3, type := 4, pos := "model.go:171", after := #[{ on := 9, ground := Ground.data }], guard := none }) (v := ?vwc37) rfl (by kernel_rfl) (by kernel_rfl) (by kernel_rfl) (fun _ _ _ h => h) (Or.inl ⟨by rfl, ?ywc37⟩) hS ?_
      case ywc37 =>
        intro w hSw
        go_simp; all_goals (with_reducible rfl)
      simp only [Act.put, List.setIfInBounds_toArray, List.set_cons_zero, List.set_cons_succ]
      refine wpAnyH_ready (rs := [11]) (by kernel_rfl) (by simp) ?_
      refine (AllReadyH.cons (o := { dst := some 18, op := Op.call { callee := Callee.value (Operand.func 75), args := #[Operand.tmp 7, Operand.tmp 11, Operand.tmp 15, Operand.tmp 17], argTypes := #[142, 85, 3, 4] }, type := 3, pos := "model.go:171", after := #[{ on := 0, ground := Ground.data }, { on := 4, ground := Ground.data }, { on := 8, ground := Ground.data }, { on := 10, ground := Ground.data }], guard := none }) rfl (fun K hK => ?_) AllReadyH.nil)
      go_simp
      refine H1.out.mono ?_
      rintro e x3 ⟨rfl, hwx3⟩
      obtain ⟨X3, hMx3, honx3, hXx3⟩ := went_trans_undrew HOx2.out hwx3
      have HMx3 := Lib.hid hMx3
      have HOx3 := Lib.hid (And.intro honx3 hXx3)
      have gx3 := hMx3.mod.cells.2.2.2.1
      clear hMx3 honx3 hXx3 hwx3
      go_wp2_with fail
      refine hK.out _ _ gx3 (fun _ => ?_)
      clear hK K
      refine wpAnyH_take (i := 12) (oi := { dst := some 19, op := Op.binOp BinOp.add 3 (Operand.const (Value.int IntKind.i64 2)) (Operand.tmp 18) 3, type := 3, pos := "model.go:171", after := #[{ on := 11, ground := Ground.data }], guard := none }) (v := ?vwc38) rfl (by kernel_rfl) (by kernel_rfl) (by kernel_rfl) (fun _ _ _ h => h) (Or.inl ⟨by rfl, ?ywc38⟩) gx3 ?_
      case ywc38 =>
        intro w hSw
        go_simp; all_goals (with_reducible rfl)
      simp only [Act.put, List.setIfInBounds_toArray, List.set_cons_zero, List.set_cons_succ]
      refine wpAnyH_take (i := 13) (oi := { dst := some 6, op := Op.assign (Operand.tmp 19), type := 3, pos := "model.go:171", after := #[{ on := 12, ground := Ground.data }, { on := 11, ground := Ground.chain }, { on := 0, ground := Ground.phase }, { on := 1, ground := Ground.phase }, { on := 2, ground := Ground.phase }, { on := 3, ground := Ground.phase }, { on := 4, ground := Ground.phase }, { on := 5, ground := Ground.phase }, { on := 6, ground := Ground.phase }, { on := 7, ground := Ground.phase }, { on := 8, ground := Ground.phase }, { on := 9, ground := Ground.phase }, { on := 10, ground := Ground.phase }, { on := 11, ground := Ground.phase }, { on := 12, ground := Ground.phase }], guard := none }) (v := ?vwc39) rfl (by kernel_rfl) (by kernel_rfl) (by kernel_rfl) (fun _ _ _ h => h) (Or.inl ⟨by rfl, ?ywc39⟩) gx3 ?_
      case ywc39 =>
        intro w hSw
        go_simp; all_goals (with_reducible rfl)
      simp only [Act.put, List.setIfInBounds_toArray, List.set_cons_zero, List.set_cons_succ]
      refine wpAnyH_done (by kernel_rfl) ?_ _

      clear hS hdr H1
      have hB : bitI D = (D.toNat : Int) := by cases D <;> rfl
      have hBl : D.toNat ≤ 1 := by cases D <;> decide
      go_wp2_with fail
      go_ret
      obtain ⟨e1, e2⟩ := HRE.out
      subst e1 e2
      refine ⟨⟨?_, X3, HMx3.out, HOx3.out.1, HOx3.out.2⟩, by rw [← HQ.out]; exact ⟨by omega, HOK3.out⟩⟩
      refine congrArg (fun n : Int => Ending.returned (Value.int .i64 n)) ?_
      simp only [hB, IntKind.wrap_i64]
      omega
end Go.Proofs.YtklkboplkobhgaaGreat

/- The model's repeat, whole. -/
namespace Go.Proofs.YtklkboplkobhgaaGreat
set_option maxRecDepth 100000
open Go.RowKit

set_option maxRecDepth 100000 in
set_option maxHeartbeats 4000000 in
theorem rept_is (io : Io) {C L lc lp pb st : Nat} {r : R4} {x : io.S} {X : List Nat} {w : World} (hM : MS io w C L lc lp pb st r x X) (hst : st < 12) {p k : Nat} (hp : p < 16) (kk : Int) (b : UInt8) (l d q : Int) (hl0 : 0 ≤ l) (hl1 : l ≤ 300)
    {wh n : Nat} {Z : io.S} (hR : Md.rept io st p l q x = ((wh, n), Z)) (hok : io.ok x.2 (k + 14)) :
    Calls Tryz.prog 78 #[PF C, io.v, .int .i64 (p : Nat), SyV kk b l d q] w (MAnd (wh ≤ 3 ∧ 1 ≤ n ∧ n ≤ 273 ∧ (n = 1 → wh = 0) ∧ io.ok Z.2 k) (MDone (SyV 2 0 (n : Nat) 0 (wh : Nat)) io C L lc lp pb (if st < 7 then (if n = 1 then 9 else 8) else 11) (frontR r wh (r4 r.1 r.2.1 r.2.2.1 r.2.2.2 wh)) Z X w)) := by
  obtain ⟨ls, hls⟩ : ∃ ls, (if st < 7 then (if n = 1 then 9 else 8) else 11) = ls := ⟨_, rfl⟩
  rw [hls]
  have HLSS := Lib.hid hls
  obtain ⟨r', hr'⟩ : ∃ r', frontR r wh (r4 r.1 r.2.1 r.2.2.1 r.2.2.2 wh) = r' := ⟨_, rfl⟩
  rw [hr']
  have HR' := Lib.hid hr'
  obtain ⟨Q, hQ⟩ : ∃ Q, (wh ≤ 3 ∧ 1 ≤ n ∧ n ≤ 273 ∧ (n = 1 → wh = 0) ∧ io.ok Z.2 k) = Q := ⟨_, rfl⟩
  rw [hQ]
  have HQ := Lib.hid hQ
  clear hls hr' hQ
  have HOUT : Hid (∀ i ∈ C :: L :: X, i < w.heap.size) := Lib.hid (by
    intro i hi
    simp only [List.mem_cons] at hi
    rcases hi with rfl | rfl | hi
    · exact hM.mod.clt
    · exact hM.mod.llt
    · exact io.lt hM.io i hi)
  obtain ⟨bs, hbs⟩ : ∃ bs, w.heap.size + 1 = bs := ⟨_, rfl⟩
  have HBS := Lib.hid hbs
  clear hbs
  obtain ⟨W1, hW1⟩ : ∃ W1, (w.alloc (.cells #[.int .i64 kk, .int .u8 (b.toNat : Nat), .int .i64 l, .int .i64 d, .int .i64 q] 96)).alloc (.cells #[.int .i64 0, .int .u8 0, .int .i64 0, .int .i64 0, .int .i64 0] 96) = W1 := ⟨_, rfl⟩
  have hb1 : Below w.heap.size w W1 := by rw [← hW1]; exact ((Below.refl _ _).alloc (Nat.le_refl _) _).alloc (by simp) _
  have hM1 := hM.below hb1
  obtain ⟨hsy, hrs⟩ := sy_boxes hW1
  rw [HBS.out] at hrs
  have HW1 := Lib.hid hW1
  have HM1 := Lib.hid hM1
  have HSY := Lib.hid hsy
  have HRS := Lib.hid hrs
  have HB1 := Lib.hid hb1
  have ne1 : C ≠ bs := fun e => by have := HOUT.out C (by simp); have := HBS.out; omega
  have ne2 : bs ≠ C := fun e => ne1 e.symm
  have hbo : Hid (w.heap.size ∉ C :: L :: X ∧ bs ∉ C :: L :: X) := Lib.hid ⟨fun h => by have := HOUT.out _ h; omega, fun h => by have := HOUT.out _ h; have := HBS.out; omega⟩
  clear hW1 hM1 hsy hrs hb1 hM
  unfold Md.rept at hR
  obtain ⟨⟨v, y⟩, hy⟩ : ∃ z, Md.which io st q x = z := ⟨_, rfl⟩
  simp only [hy] at hR
  have HWH := Lib.hid (which_is io HM1.out hst hy (k := k + 11) hok)
  have hpi : (p : Int) < 16 := by omega
  have hsti : (st : Int) < 12 := by omega
  have hc4 := HSY.out.2.2.2.2
  have HR := Lib.hid hR
  clear hy hR hok
  go_enter Tryz.func78, Tryz.ntmps78
  go_upto_region 1 with fail
  rw [HW1.out, HBS.out]
  go_wp2_with fail
  refine HWH.out.mono ?_
  rintro e x4 ⟨⟨rfl, hw4⟩, hv3, ok4⟩
  obtain ⟨X4, hM4, hon4, hX4⟩ := hw4
  have HM4 := Lib.hid hM4
  have HO4 := Lib.hid (And.intro hon4 hX4)
  have HOK4 := Lib.hid ok4
  have hdr := And.intro hM4.mod.cells.2.2.2.1 (cell_only hon4 hbo.out.1 HSY.out.2.2.1)
  clear hM4 hon4 hX4 ok4 HWH hc4
  by_cases hv : v = 0
  · subst hv
    have hR := HR.out
    rw [if_pos rfl] at hR
    obtain ⟨⟨B, y2⟩, hy⟩ : ∃ z, io.bitAt (240 + 16 * st + p) (l != 1) y = z := ⟨_, rfl⟩
    obtain ⟨h1, ok1⟩ := bit_is io (HM4.out.drewN 1) hy (at_ := 240 + 16 * st) (j := p) (len := 16) (cp := 16) (b := C) (off := 248 + st * 16) rfl (k := k + 10) HOK4.out (Md.seg_head (by omega) (by omega)) hp (by omega) (by omega)
    simp only [hy] at hR
    have HCODE := Lib.hid h1
    have HOK5 := Lib.hid ok1
    have HR2 := Lib.hid hR
    clear hy hR h1 ok1
    go_upto_region 2 with fail
    refine wp_region_held_drew (S := fun w2 => w2.cell? ⟨C, 3, none⟩ = some (.int .i64 (st : Nat)) ∧ w2.cell? ⟨w.heap.size, 2, none⟩ = some (.int .i64 l)) (by kernel_rfl) hdr (fun hS => ?_)
    refine wpAnyH_take (i := 0) (oi := { dst := some 16, op := Op.move (Operand.tmp 9), type := 3, pos := "model.go:154", after := #[], guard := none }) (v := ?vra40) rfl (by kernel_rfl) (by kernel_rfl) (by kernel_rfl) (fun _ _ _ h => h) (Or.inl ⟨by rfl, ?yra40⟩) hS ?_
    case yra40 =>
      intro w hSw
      go_simp; all_goals (with_reducible rfl)
    simp only [Act.put, List.setIfInBounds_toArray, List.set_cons_zero, List.set_cons_succ]
    refine wpAnyH_take (i := 1) (oi := { dst := some 17, op := Op.binOp BinOp.eql 3 (Operand.tmp 16) (Operand.const (Value.int IntKind.i64 0)) 3, type := 4, pos := "model.go:154", after := #[{ on := 0, ground := Ground.data }], guard := none }) (v := ?vra41) rfl (by kernel_rfl) (by kernel_rfl) (by kernel_rfl) (fun _ _ _ h => h) (Or.inl ⟨by rfl, ?yra41⟩) hS ?_
    case yra41 =>
      intro w hSw
      go_simp; all_goals (with_reducible rfl)
    simp only [Act.put, List.setIfInBounds_toArray, List.set_cons_zero, List.set_cons_succ]
    refine wpAnyH_take (i := 2) (oi := { dst := some 18, op := Op.move (Operand.tmp 17), type := 4, pos := "model.go:154", after := #[{ on := 1, ground := Ground.data }], guard := none }) (v := ?vra42) rfl (by kernel_rfl) (by kernel_rfl) (by kernel_rfl) (fun _ _ _ h => h) (Or.inl ⟨by rfl, ?yra42⟩) hS ?_
    case yra42 =>
      intro w hSw
      go_simp; all_goals (with_reducible rfl)
    simp only [Act.put, List.setIfInBounds_toArray, List.set_cons_zero, List.set_cons_succ]
    refine wpAnyH_take (i := 3) (oi := { dst := some 19, op := Op.move (Operand.tmp 1), type := 142, pos := "model.go:154", after := #[{ on := 2, ground := Ground.guard }], guard := some (2, true) }) (v := ?vra43) rfl (by kernel_rfl) (by kernel_rfl) (by kernel_rfl) (fun _ _ _ h => h) (Or.inl ⟨by rfl, ?yra43⟩) hS ?_
    case yra43 =>
      intro w hSw
      go_simp; all_goals (with_reducible rfl)
    simp only [Act.put, List.setIfInBounds_toArray, List.set_cons_zero, List.set_cons_succ]
    refine wpAnyH_take (i := 4) (oi := { dst := some 20, op := Op.move (Operand.tmp 0), type := 39, pos := "model.go:154", after := #[{ on := 2, ground := Ground.guard }], guard := some (2, true) }) (v := ?vra44) rfl (by kernel_rfl) (by kernel_rfl) (by kernel_rfl) (fun _ _ _ h => h) (Or.inl ⟨by rfl, ?yra44⟩) hS ?_
    case yra44 =>
      intro w hSw
      go_simp; all_goals (with_reducible rfl)
    simp only [Act.put, List.setIfInBounds_toArray, List.set_cons_zero, List.set_cons_succ]
    refine wpAnyH_take (i := 5) (oi := { dst := some 21, op := Op.move (Operand.tmp 0), type := 39, pos := "model.go:154", after := #[{ on := 2, ground := Ground.guard }], guard := some (2, true) }) (v := ?vra45) rfl (by kernel_rfl) (by kernel_rfl) (by kernel_rfl) (fun _ _ _ h => h) (Or.inl ⟨by rfl, ?yra45⟩) hS ?_
    case yra45 =>
      intro w hSw
      go_simp; all_goals (with_reducible rfl)
    simp only [Act.put, List.setIfInBounds_toArray, List.set_cons_zero, List.set_cons_succ]
    refine wpAnyH_take (i := 6) (oi := { dst := some 22, op := Op.nilCheck (Operand.tmp 21), type := 0, pos := "model.go:154", after := #[{ on := 5, ground := Ground.data }, { on := 2, ground := Ground.guard }], guard := some (2, true) }) (v := ?vra46) rfl (by kernel_rfl) (by kernel_rfl) (by kernel_rfl) (fun _ _ _ h => h) (Or.inl ⟨by rfl, ?yra46⟩) hS ?_
    case yra46 =>
      intro w hSw
      go_simp; all_goals (with_reducible rfl)
    simp only [Act.put, List.setIfInBounds_toArray, List.set_cons_zero, List.set_cons_succ]
    refine wpAnyH_take (i := 7) (oi := { dst := some 23, op := Op.fieldAddr 83 (Operand.tmp 22) 3, type := 0, pos := "model.go:154", after := #[{ on := 6, ground := Ground.data }, { on := 2, ground := Ground.guard }], guard := some (2, true) }) (v := ?vra47) rfl (by kernel_rfl) (by kernel_rfl) (by kernel_rfl) (fun _ _ _ h => h) (Or.inl ⟨by rfl, ?yra47⟩) hS ?_
    case yra47 =>
      intro w hSw
      go_simp; all_goals (with_reducible rfl)
    simp only [Act.put, List.setIfInBounds_toArray, List.set_cons_zero, List.set_cons_succ]
    refine wpAnyH_take (i := 8) (oi := { dst := some 24, op := Op.load 3 (Operand.tmp 23), type := 3, pos := "model.go:154", after := #[{ on := 7, ground := Ground.data }, { on := 2, ground := Ground.guard }], guard := some (2, true) }) (v := ?vra48) rfl (by kernel_rfl) (by kernel_rfl) (by kernel_rfl) (fun _ _ _ h => h) (Or.inl ⟨by rfl, ?yra48⟩) hS ?_
    case yra48 =>
      intro w hSw
      obtain ⟨q1, q2⟩ := hSw
      go_simp; all_goals (with_reducible rfl)
    simp only [Act.put, List.setIfInBounds_toArray, List.set_cons_zero, List.set_cons_succ]
    refine wpAnyH_take (i := 9) (oi := { dst := some 25, op := Op.nilCheck (Operand.tmp 20), type := 0, pos := "model.go:154", after := #[{ on := 4, ground := Ground.data }, { on := 2, ground := Ground.guard }], guard := some (2, true) }) (v := ?vra49) rfl (by kernel_rfl) (by kernel_rfl) (by kernel_rfl) (fun _ _ _ h => h) (Or.inl ⟨by rfl, ?yra49⟩) hS ?_
    case yra49 =>
      intro w hSw
      go_simp; all_goals (with_reducible rfl)
    simp only [Act.put, List.setIfInBounds_toArray, List.set_cons_zero, List.set_cons_succ]
    refine wpAnyH_take (i := 10) (oi := { dst := some 26, op := Op.fieldAddr 83 (Operand.tmp 25) 10, type := 0, pos := "model.go:154", after := #[{ on := 9, ground := Ground.data }, { on := 2, ground := Ground.guard }], guard := some (2, true) }) (v := ?vra50) rfl (by kernel_rfl) (by kernel_rfl) (by kernel_rfl) (fun _ _ _ h => h) (Or.inl ⟨by rfl, ?yra50⟩) hS ?_
    case yra50 =>
      intro w hSw
      go_simp; all_goals (with_reducible rfl)
    simp only [Act.put, List.setIfInBounds_toArray, List.set_cons_zero, List.set_cons_succ]
    refine wpAnyH_take (i := 11) (oi := { dst := some 27, op := Op.indexAddr 67 (Operand.tmp 26) (Operand.tmp 24), type := 0, pos := "model.go:154", after := #[{ on := 10, ground := Ground.data }, { on := 8, ground := Ground.data }, { on := 2, ground := Ground.guard }], guard := some (2, true) }) (v := ?vra51) rfl (by kernel_rfl) (by kernel_rfl) (by kernel_rfl) (fun _ _ _ h => h) (Or.inl ⟨by rfl, ?yra51⟩) hS ?_
    case yra51 =>
      intro w hSw
      go_simp; all_goals (with_reducible rfl)
    simp only [Act.put, List.setIfInBounds_toArray, List.set_cons_zero, List.set_cons_succ]
    refine wpAnyH_take (i := 12) (oi := { dst := some 28, op := Op.slice 66 (Operand.tmp 27) none none none, type := 85, pos := "model.go:154", after := #[{ on := 11, ground := Ground.data }, { on := 2, ground := Ground.guard }], guard := some (2, true) }) (v := ?vra52) rfl (by kernel_rfl) (by kernel_rfl) (by kernel_rfl) (fun _ _ _ h => h) (Or.inl ⟨by rfl, ?yra52⟩) hS ?_
    case yra52 =>
      intro w hSw
      go_simp; all_goals (with_reducible rfl)
    simp only [Act.put, List.setIfInBounds_toArray, List.set_cons_zero, List.set_cons_succ]
    refine wpAnyH_take (i := 13) (oi := { dst := some 29, op := Op.move (Operand.tmp 2), type := 3, pos := "model.go:154", after := #[{ on := 2, ground := Ground.guard }], guard := some (2, true) }) (v := ?vra53) rfl (by kernel_rfl) (by kernel_rfl) (by kernel_rfl) (fun _ _ _ h => h) (Or.inl ⟨by rfl, ?yra53⟩) hS ?_
    case yra53 =>
      intro w hSw
      go_simp; all_goals (with_reducible rfl)
    simp only [Act.put, List.setIfInBounds_toArray, List.set_cons_zero, List.set_cons_succ]
    refine wpAnyH_take (i := 14) (oi := { dst := some 30, op := Op.fieldAddr 96 (Operand.tmp 7) 2, type := 0, pos := "model.go:154", after := #[{ on := 2, ground := Ground.guard }], guard := some (2, true) }) (v := ?vra54) rfl (by kernel_rfl) (by kernel_rfl) (by kernel_rfl) (fun _ _ _ h => h) (Or.inl ⟨by rfl, ?yra54⟩) hS ?_
    case yra54 =>
      intro w hSw
      go_simp; all_goals (with_reducible rfl)
    simp only [Act.put, List.setIfInBounds_toArray, List.set_cons_zero, List.set_cons_succ]
    refine wpAnyH_take (i := 15) (oi := { dst := some 31, op := Op.load 3 (Operand.tmp 30), type := 3, pos := "model.go:154", after := #[{ on := 14, ground := Ground.data }, { on := 2, ground := Ground.guard }], guard := some (2, true) }) (v := ?vra55) rfl (by kernel_rfl) (by kernel_rfl) (by kernel_rfl) (fun _ _ _ h => h) (Or.inl ⟨by rfl, ?yra55⟩) hS ?_
    case yra55 =>
      intro w hSw
      obtain ⟨q1, q2⟩ := hSw
      go_simp; all_goals (with_reducible rfl)
    simp only [Act.put, List.setIfInBounds_toArray, List.set_cons_zero, List.set_cons_succ]
    refine wpAnyH_take (i := 16) (oi := { dst := some 32, op := Op.binOp BinOp.neq 3 (Operand.tmp 31) (Operand.const (Value.int IntKind.i64 1)) 3, type := 4, pos := "model.go:154", after := #[{ on := 15, ground := Ground.data }, { on := 2, ground := Ground.guard }], guard := some (2, true) }) (v := ?vra56) rfl (by kernel_rfl) (by kernel_rfl) (by kernel_rfl) (fun _ _ _ h => h) (Or.inl ⟨by rfl, ?yra56⟩) hS ?_
    case yra56 =>
      intro w hSw
      go_simp; all_goals (with_reducible rfl)
    simp only [Act.put, List.setIfInBounds_toArray, List.set_cons_zero, List.set_cons_succ]
    refine wpAnyH_ready (rs := [17]) (by kernel_rfl) (by simp) ?_
    refine (AllReadyH.cons (o := { dst := some 33, op := Op.call { callee := Callee.value (Operand.func 75), args := #[Operand.tmp 19, Operand.tmp 28, Operand.tmp 29, Operand.tmp 32], argTypes := #[142, 85, 3, 4] }, type := 3, pos := "model.go:154", after := #[{ on := 3, ground := Ground.data }, { on := 12, ground := Ground.data }, { on := 13, ground := Ground.data }, { on := 16, ground := Ground.data }, { on := 2, ground := Ground.chain }, { on := 2, ground := Ground.guard }], guard := some (2, true) }) rfl (fun K hK => ?_) AllReadyH.nil)
    go_simp
    refine HCODE.out.mono ?_
    rintro e x5 ⟨rfl, hw5⟩
    obtain ⟨X5, hM5, hon5, hX5⟩ := went_trans_undrew HO4.out hw5
    have HM5 := Lib.hid hM5
    have HO5 := Lib.hid (And.intro hon5 hX5)
    have g5 := And.intro hM5.mod.cells.2.2.2.1 (cell_only hon5 hbo.out.1 HSY.out.2.2.1)
    clear hM5 hon5 hX5 hw5
    go_wp2_with fail
    refine hK.out _ _ g5 (fun _ => ?_)
    clear hK K
    refine wpAnyH_take (i := 18) (oi := { dst := some 34, op := Op.binOp BinOp.eql 3 (Operand.tmp 33) (Operand.const (Value.int IntKind.i64 0)) 3, type := 4, pos := "model.go:154", after := #[{ on := 17, ground := Ground.data }, { on := 2, ground := Ground.guard }], guard := some (2, true) }) (v := ?vra57) rfl (by kernel_rfl) (by kernel_rfl) (by kernel_rfl) (fun _ _ _ h => h) (Or.inl ⟨by rfl, ?yra57⟩) g5 ?_
    case yra57 =>
      intro w hSw
      go_simp; all_goals (with_reducible rfl)
    simp only [Act.put, List.setIfInBounds_toArray, List.set_cons_zero, List.set_cons_succ]
    refine wpAnyH_take (i := 19) (oi := { dst := some 35, op := Op.pick (Operand.tmp 18) (Operand.tmp 34) (Operand.const (Value.bool false)), type := 4, pos := "model.go:154", after := #[{ on := 2, ground := Ground.data }, { on := 18, ground := Ground.data }], guard := none }) (v := ?vra58) rfl (by kernel_rfl) (by kernel_rfl) (by kernel_rfl) (fun _ _ _ h => h) (Or.inl ⟨by rfl, ?yra58⟩) g5 ?_
    case yra58 =>
      intro w hSw
      go_simp; all_goals (with_reducible rfl)
    simp only [Act.put, List.setIfInBounds_toArray, List.set_cons_zero, List.set_cons_succ]
    refine wpAnyH_done (by kernel_rfl) ?_ _

    clear hS hdr HCODE g5
    cases B with
    | false =>
      have hR := HR2.out
      simp only [if_true] at hR
      injection hR with hR1 hR2
      injection hR1 with hR1 hR3
      have HRE : Hid (wh = 0 ∧ n = 1 ∧ Z = y2) := Lib.hid ⟨hR1.symm, hR3.symm, hR2.symm⟩
      clear hR1 hR2 hR3
      rw [show bitI false = 0 from rfl]
      obtain ⟨_, _, _, c3, _⟩ := HM5.out.mod.cells
      have f3 := HM5.out.mod.frozenC 3
      have hAF := after2_any st 9 11 x5
      rw [show (if st < 7 then 9 else 11) = ls from by rw [← HLSS.out, HRE.out.2.1]; rfl] at hAF
      have HAF := Lib.hid hAF
      have HON : Hid (Only (C :: L :: X) W1 x5) := Lib.hid HO5.out.1
      have HNX : Hid (∀ i ∈ X5, i ∈ X ∨ W1.heap.size ≤ i) := Lib.hid HO5.out.2
      have HRR : Hid (r' = r) := Lib.hid (by rw [← HR'.out, HRE.out.1]; rfl)
      have hrs := (HON.out.block bs (by have := (Array.getElem?_eq_some_iff.1 HRS.out).1; exact this) hbo.out.2).trans HRS.out
      have z0 : x5.cell? ⟨bs, 0, none⟩ = some (.int .i64 0) := by rw [cell_of_row x5 _ _ _ _ _ hrs]; rfl
      have z1 : x5.cell? ⟨bs, 1, none⟩ = some (.int .u8 0) := by rw [cell_of_row x5 _ _ _ _ _ hrs]; rfl
      have z2 : x5.cell? ⟨bs, 2, none⟩ = some (.int .i64 0) := by rw [cell_of_row x5 _ _ _ _ _ hrs]; rfl
      have z3 : x5.cell? ⟨bs, 3, none⟩ = some (.int .i64 0) := by rw [cell_of_row x5 _ _ _ _ _ hrs]; rfl
      have z4 : x5.cell? ⟨bs, 4, none⟩ = some (.int .i64 0) := by rw [cell_of_row x5 _ _ _ _ _ hrs]; rfl
      have zf : ∀ i, x5.frozen? ⟨bs, i, none⟩ = false := fun i => frozen_of_row _ _ _ _ _ hrs
      have zf0 := zf 0
      have zf1 := zf 1
      have zf2 := zf 2
      have zf3 := zf 3
      have zf4 := zf 4
      clear hrs zf
      clear hAF
      go_wp2_with fail
      refine HAF.out.mono ?_
      rintro e x8 ⟨rfl, rfl⟩
      go_wp2_with fail
      rw [HRE.out.2.2, HRR.out]
      refine bodyPost_ret (v := SyV 2 0 (n : Nat) 0 (wh : Nat)) (by simp [results, Tryz.results78, go_sem, HRE.out.1, HRE.out.2.1, z0, z1, z2, z3, z4]) rfl ⟨⟨rfl, X5, ?_, ?_, ?_⟩, by rw [← HQ.out, HRE.out.2.2]; have := HRE.out; exact ⟨by omega, by omega, by omega, by omega, io.le HOK5.out (by omega)⟩⟩
      · have hbX : bs ∉ C :: L :: X5 := fun h => by
          simp only [List.mem_cons] at h
          rcases h with h | h | h
          · exact ne2 h
          · have := HOUT.out L (by simp); have := HBS.out; omega
          · rcases HNX.out _ h with h | h
            · have := HOUT.out bs (by simp [h]); have := HBS.out; omega
            · have := (Array.getElem?_eq_some_iff.1 HRS.out).1; omega
        exact (((((HM5.out.setHead (k := 3) (st' := ls) (r' := r) (by decide) rfl).setFar hbX _).setFar hbX _).setFar hbX _).setFar hbX _).setFar hbX _
      · have h0 : Only (C :: L :: X) w x5 := (Only.of_below HB1.out).trans HON.out (fun i hi => .inl hi)
        have hn : bs ∈ C :: L :: X ∨ w.heap.size ≤ bs := .inr (by have := HBS.out; omega)
        exact (((((h0.setCell (p := ⟨C, 3, none⟩) (.inl (by simp)) _).setCell (p := ⟨bs, 0, none⟩) hn _).setCell (p := ⟨bs, 1, none⟩) hn _).setCell (p := ⟨bs, 2, none⟩) hn _).setCell (p := ⟨bs, 3, none⟩) hn _).setCell (p := ⟨bs, 4, none⟩) hn _
      · intro i hi
        rcases HNX.out i hi with h | h
        · exact .inl h
        · exact .inr (Nat.le_trans HB1.out.size h)
    | true =>
      have hR := HR2.out
      simp only [Bool.true_eq_false, if_false] at hR
      obtain ⟨⟨n2, z⟩, hz⟩ : ∃ q, Md.len io 946 p l y2 = q := ⟨_, rfl⟩
      simp only [hz] at hR
      injection hR with hR1 hR2
      injection hR1 with hR1 hR3
      subst hR1 hR2 hR3
      have HZ := Lib.hid hz
      clear hz
      rw [show bitI true = 1 from rfl]
      have hdr := cell_only HO5.out.1 hbo.out.1 HSY.out.2.2.1
      have HLEN := Lib.hid (len_is io (HM5.out.drewN 1) HZ.out (k := k) (io.le HOK5.out (by omega)) (.inr rfl) hp hl0 hl1)
      go_upto_region 5 with fail
      refine wp_region_held_drew (S := fun w2 => w2.cell? ⟨w.heap.size, 2, none⟩ = some (.int .i64 l)) (by kernel_rfl) hdr (fun hS => ?_)
      refine wpAnyH_take (i := 0) (oi := { dst := some 45, op := Op.move (Operand.tmp 0), type := 39, pos := "model.go:158", after := #[], guard := none }) (v := ?vrt59) rfl (by kernel_rfl) (by kernel_rfl) (by kernel_rfl) (fun _ _ _ h => h) (Or.inl ⟨by rfl, ?yrt59⟩) hS ?_
      case yrt59 =>
        intro w hSw
        go_simp; all_goals (with_reducible rfl)
      simp only [Act.put, List.setIfInBounds_toArray, List.set_cons_zero, List.set_cons_succ]
      refine wpAnyH_take (i := 1) (oi := { dst := some 46, op := Op.nilCheck (Operand.tmp 45), type := 0, pos := "model.go:158", after := #[{ on := 0, ground := Ground.data }], guard := none }) (v := ?vrt60) rfl (by kernel_rfl) (by kernel_rfl) (by kernel_rfl) (fun _ _ _ h => h) (Or.inl ⟨by rfl, ?yrt60⟩) hS ?_
      case yrt60 =>
        intro w hSw
        go_simp; all_goals (with_reducible rfl)
      simp only [Act.put, List.setIfInBounds_toArray, List.set_cons_zero, List.set_cons_succ]
      refine wpAnyH_take (i := 2) (oi := { dst := some 47, op := Op.fieldAddr 83 (Operand.tmp 46) 13, type := 0, pos := "model.go:158", after := #[{ on := 1, ground := Ground.data }], guard := none }) (v := ?vrt61) rfl (by kernel_rfl) (by kernel_rfl) (by kernel_rfl) (fun _ _ _ h => h) (Or.inl ⟨by rfl, ?yrt61⟩) hS ?_
      case yrt61 =>
        intro w hSw
        go_simp; all_goals (with_reducible rfl)
      simp only [Act.put, List.setIfInBounds_toArray, List.set_cons_zero, List.set_cons_succ]
      refine wpAnyH_take (i := 3) (oi := { dst := some 48, op := Op.move (Operand.tmp 1), type := 142, pos := "model.go:158", after := #[], guard := none }) (v := ?vrt62) rfl (by kernel_rfl) (by kernel_rfl) (by kernel_rfl) (fun _ _ _ h => h) (Or.inl ⟨by rfl, ?yrt62⟩) hS ?_
      case yrt62 =>
        intro w hSw
        go_simp; all_goals (with_reducible rfl)
      simp only [Act.put, List.setIfInBounds_toArray, List.set_cons_zero, List.set_cons_succ]
      refine wpAnyH_take (i := 4) (oi := { dst := some 49, op := Op.move (Operand.tmp 2), type := 3, pos := "model.go:158", after := #[], guard := none }) (v := ?vrt63) rfl (by kernel_rfl) (by kernel_rfl) (by kernel_rfl) (fun _ _ _ h => h) (Or.inl ⟨by rfl, ?yrt63⟩) hS ?_
      case yrt63 =>
        intro w hSw
        go_simp; all_goals (with_reducible rfl)
      simp only [Act.put, List.setIfInBounds_toArray, List.set_cons_zero, List.set_cons_succ]
      refine wpAnyH_take (i := 5) (oi := { dst := some 50, op := Op.fieldAddr 96 (Operand.tmp 7) 2, type := 0, pos := "model.go:158", after := #[], guard := none }) (v := ?vrt64) rfl (by kernel_rfl) (by kernel_rfl) (by kernel_rfl) (fun _ _ _ h => h) (Or.inl ⟨by rfl, ?yrt64⟩) hS ?_
      case yrt64 =>
        intro w hSw
        go_simp; all_goals (with_reducible rfl)
      simp only [Act.put, List.setIfInBounds_toArray, List.set_cons_zero, List.set_cons_succ]
      refine wpAnyH_take (i := 6) (oi := { dst := some 51, op := Op.load 3 (Operand.tmp 50), type := 3, pos := "model.go:158", after := #[{ on := 5, ground := Ground.data }], guard := none }) (v := ?vrt65) rfl (by kernel_rfl) (by kernel_rfl) (by kernel_rfl) (fun _ _ _ h => h) (Or.inl ⟨by rfl, ?yrt65⟩) hS ?_
      case yrt65 =>
        intro w hSw
        have q1 := hSw
        go_simp; all_goals (with_reducible rfl)
      simp only [Act.put, List.setIfInBounds_toArray, List.set_cons_zero, List.set_cons_succ]
      refine wpAnyH_ready (rs := [7]) (by kernel_rfl) (by simp) ?_
      refine (AllReadyH.cons (o := { dst := some 52, op := Op.call { callee := Callee.value (Operand.func 90), args := #[Operand.tmp 47, Operand.tmp 48, Operand.tmp 49, Operand.tmp 51], argTypes := #[75, 142, 3, 3] }, type := 3, pos := "model.go:158", after := #[{ on := 2, ground := Ground.data }, { on := 3, ground := Ground.data }, { on := 4, ground := Ground.data }, { on := 6, ground := Ground.data }], guard := none }) rfl (fun K hK => ?_) AllReadyH.nil)
      go_simp
      refine HLEN.out.mono ?_
      rintro e x6 ⟨⟨rfl, hw6⟩, hn1, hn2, ok6⟩
      obtain ⟨X6, hM6, hon6, hX6⟩ := went_trans_undrew HO5.out hw6
      have g6 := cell_only hon6 hbo.out.1 HSY.out.2.2.1
      have HM6 := Lib.hid hM6
      have HO6 := Lib.hid (And.intro hon6 hX6)
      have HOK6 := Lib.hid ok6
      have HN6 := Lib.hid (And.intro hn1 hn2)
      have hn6i : (n2 : Int) ≤ 273 := by omega
      clear hM6 hon6 hX6 ok6 hn1 hn2 hw6
      go_wp2_with fail
      refine hK.out _ _ g6 (fun _ => ?_)
      clear hK K
      refine wpAnyH_take (i := 8) (oi := { dst := some 10, op := Op.assign (Operand.tmp 52), type := 3, pos := "model.go:158", after := #[{ on := 7, ground := Ground.data }, { on := 7, ground := Ground.chain }, { on := 0, ground := Ground.phase }, { on := 1, ground := Ground.phase }, { on := 2, ground := Ground.phase }, { on := 3, ground := Ground.phase }, { on := 4, ground := Ground.phase }, { on := 5, ground := Ground.phase }, { on := 6, ground := Ground.phase }, { on := 7, ground := Ground.phase }], guard := none }) (v := ?vrt66) rfl (by kernel_rfl) (by kernel_rfl) (by kernel_rfl) (fun _ _ _ h => h) (Or.inl ⟨by rfl, ?yrt66⟩) g6 ?_
      case yrt66 =>
        intro w hSw
        go_simp; all_goals (with_reducible rfl)
      simp only [Act.put, List.setIfInBounds_toArray, List.set_cons_zero, List.set_cons_succ]
      refine wpAnyH_done (by kernel_rfl) ?_ _
      clear hS hdr HLEN g6
      obtain ⟨_, _, _, _, c4, c5, c6, c7⟩ := HM6.out.mod.cells
      have HFR := Lib.hid (front_any HM6.out.mod 0 (by omega) (r4 r.1 r.2.1 r.2.2.1 r.2.2.2 0))
      rw [HR'.out] at HFR
      have HNX : Hid (∀ i ∈ X6, i ∈ X ∨ W1.heap.size ≤ i) := Lib.hid HO6.out.2
      have hsel : x6.cell? ⟨C, 4 + 0, none⟩ = some (.int .i64 (r4 r.1 r.2.1 r.2.2.1 r.2.2.2 0)) := by
        have h3 : 0 ≤ 3 := by omega
        rcases (by omega : 0 = 0 ∨ 0 = 1 ∨ 0 = 2 ∨ 0 = 3) with h | h | h | h
        · rw [h]; exact c4
        · rw [h]; exact c5
        · rw [h]; exact c6
        · rw [h]; exact c7
      obtain ⟨RQ, hRQ⟩ : ∃ RQ, r4 r.1 r.2.1 r.2.2.1 r.2.2.2 0 = RQ := ⟨_, rfl⟩
      rw [hRQ] at hsel HFR
      clear hRQ c4 c5 c6 c7
      go_wp2_with fail
      refine HFR.out.mono ?_
      rintro e x7 ⟨rfl, hm7, ho7⟩
      have hM7 := HM6.out.front hm7 ho7
      have hon7 : Only (C :: L :: X) W1 x7 := HO6.out.1.trans ho7 (fun i hi => .inl (by simp at hi; simp [hi]))
      have HM7 := Lib.hid hM7
      have HON := Lib.hid hon7
      obtain ⟨_, _, _, c3, _⟩ := hM7.mod.cells
      have f3 := hM7.mod.frozenC 3
      have hAF := after2_any st 8 11 x7
      rw [show (if st < 7 then 8 else 11) = ls from by rw [← HLSS.out]; split; rw [if_neg (by have := HN6.out.1; omega)]; rfl] at hAF
      have HAF := Lib.hid hAF
      have hrs := (HON.out.block bs (by have := (Array.getElem?_eq_some_iff.1 HRS.out).1; exact this) hbo.out.2).trans HRS.out
      have z0 : x7.cell? ⟨bs, 0, none⟩ = some (.int .i64 0) := by rw [cell_of_row x7 _ _ _ _ _ hrs]; rfl
      have z1 : x7.cell? ⟨bs, 1, none⟩ = some (.int .u8 0) := by rw [cell_of_row x7 _ _ _ _ _ hrs]; rfl
      have z2 : x7.cell? ⟨bs, 2, none⟩ = some (.int .i64 0) := by rw [cell_of_row x7 _ _ _ _ _ hrs]; rfl
      have z3 : x7.cell? ⟨bs, 3, none⟩ = some (.int .i64 0) := by rw [cell_of_row x7 _ _ _ _ _ hrs]; rfl
      have z4 : x7.cell? ⟨bs, 4, none⟩ = some (.int .i64 0) := by rw [cell_of_row x7 _ _ _ _ _ hrs]; rfl
      have zf : ∀ i, x7.frozen? ⟨bs, i, none⟩ = false := fun i => frozen_of_row _ _ _ _ _ hrs
      have zf0 := zf 0
      have zf1 := zf 1
      have zf2 := zf 2
      have zf3 := zf 3
      have zf4 := zf 4
      clear hrs zf
      clear hm7 ho7 hM7 hon7 hAF HFR hsel
      go_wp2_with fail
      refine HAF.out.mono ?_
      rintro e x8 ⟨rfl, rfl⟩
      go_wp2_with fail
      refine bodyPost_ret (v := SyV 2 0 (n2 : Nat) 0 ((0 : Nat) : Int)) (by simp [results, Tryz.results78, go_sem, z0, z1, z2, z3, z4]) rfl ⟨⟨rfl, X6, ?_, ?_, ?_⟩, by rw [← HQ.out]; have := HN6.out; exact ⟨by omega, by omega, by omega, by omega, HOK6.out⟩⟩
      · have hbX : bs ∉ C :: L :: X6 := fun h => by
          simp only [List.mem_cons] at h
          rcases h with h | h | h
          · exact ne2 h
          · have := HOUT.out L (by simp); have := HBS.out; omega
          · rcases HNX.out _ h with h | h
            · have := HOUT.out bs (by simp [h]); have := HBS.out; omega
            · have := (Array.getElem?_eq_some_iff.1 HRS.out).1; omega
        exact (((((HM7.out.setHead (k := 3) (st' := ls) (r' := r') (by decide) rfl).setFar hbX _).setFar hbX _).setFar hbX _).setFar hbX _).setFar hbX _
      · have h0 : Only (C :: L :: X) w x7 := (Only.of_below HB1.out).trans HON.out (fun i hi => .inl hi)
        have hn : bs ∈ C :: L :: X ∨ w.heap.size ≤ bs := .inr (by have := HBS.out; omega)
        exact (((((h0.setCell (p := ⟨C, 3, none⟩) (.inl (by simp)) _).setCell (p := ⟨bs, 0, none⟩) hn _).setCell (p := ⟨bs, 1, none⟩) hn _).setCell (p := ⟨bs, 2, none⟩) hn _).setCell (p := ⟨bs, 3, none⟩) hn _).setCell (p := ⟨bs, 4, none⟩) hn _
      · intro i hi
        rcases HNX.out i hi with h | h
        · exact .inl h
        · exact .inr (Nat.le_trans HB1.out.size h)
  · have hR := HR.out
    rw [if_neg hv] at hR
    have hvb : ((v : Int) == 0) = false := beq_eq_false_iff_ne.2 (by omega)
    have hvi : (v : Int) < 4 := by omega
    obtain ⟨⟨n2, z⟩, hz⟩ : ∃ q, Md.len io 946 p l y = q := ⟨_, rfl⟩
    simp only [hz] at hR
    injection hR with hR1 hR2
    injection hR1 with hR1 hR3
    subst hR1 hR2 hR3
    have HZ := Lib.hid hz
    clear hz
    go_upto_region 2 with fail
    refine wp_region_held_drew (S := fun w2 => w2.cell? ⟨C, 3, none⟩ = some (.int .i64 (st : Nat)) ∧ w2.cell? ⟨w.heap.size, 2, none⟩ = some (.int .i64 l)) (by kernel_rfl) hdr (fun hS => ?_)
    refine wpAnyH_take (i := 0) (oi := { dst := some 16, op := Op.move (Operand.tmp 9), type := 3, pos := "model.go:154", after := #[], guard := none }) (v := ?vrb67) rfl (by kernel_rfl) (by kernel_rfl) (by kernel_rfl) (fun _ _ _ h => h) (Or.inl ⟨by rfl, ?yrb67⟩) hS ?_
    case yrb67 =>
      intro w hSw
      go_simp; all_goals (with_reducible rfl)
    simp only [Act.put, List.setIfInBounds_toArray, List.set_cons_zero, List.set_cons_succ]
    refine wpAnyH_take (i := 1) (oi := { dst := some 17, op := Op.binOp BinOp.eql 3 (Operand.tmp 16) (Operand.const (Value.int IntKind.i64 0)) 3, type := 4, pos := "model.go:154", after := #[{ on := 0, ground := Ground.data }], guard := none }) (v := ?vrb68) rfl (by kernel_rfl) (by kernel_rfl) (by kernel_rfl) (fun _ _ _ h => h) (Or.inl ⟨by rfl, ?yrb68⟩) hS ?_
    case yrb68 =>
      intro w hSw
      go_simp; all_goals (with_reducible rfl)
    simp only [Act.put, List.setIfInBounds_toArray, List.set_cons_zero, List.set_cons_succ]
    refine wpAnyH_take (i := 2) (oi := { dst := some 18, op := Op.move (Operand.tmp 17), type := 4, pos := "model.go:154", after := #[{ on := 1, ground := Ground.data }], guard := none }) (v := ?vrb69) rfl (by kernel_rfl) (by kernel_rfl) (by kernel_rfl) (fun _ _ _ h => h) (Or.inl ⟨by rfl, ?yrb69⟩) hS ?_
    case yrb69 =>
      intro w hSw
      go_simp; all_goals (with_reducible rfl)
    simp only [Act.put, List.setIfInBounds_toArray, List.set_cons_zero, List.set_cons_succ]
    refine wpAnyH_take (i := 3) (oi := { dst := some 19, op := Op.move (Operand.tmp 1), type := 142, pos := "model.go:154", after := #[{ on := 2, ground := Ground.guard }], guard := some (2, true) }) (v := undef) rfl (by kernel_rfl) (by kernel_rfl) (by kernel_rfl) (fun _ _ _ h => h) (Or.inr ⟨by rfl, rfl⟩) hS ?_
    simp only [Act.put, List.setIfInBounds_toArray, List.set_cons_zero, List.set_cons_succ]
    refine wpAnyH_take (i := 4) (oi := { dst := some 20, op := Op.move (Operand.tmp 0), type := 39, pos := "model.go:154", after := #[{ on := 2, ground := Ground.guard }], guard := some (2, true) }) (v := undef) rfl (by kernel_rfl) (by kernel_rfl) (by kernel_rfl) (fun _ _ _ h => h) (Or.inr ⟨by rfl, rfl⟩) hS ?_
    simp only [Act.put, List.setIfInBounds_toArray, List.set_cons_zero, List.set_cons_succ]
    refine wpAnyH_take (i := 5) (oi := { dst := some 21, op := Op.move (Operand.tmp 0), type := 39, pos := "model.go:154", after := #[{ on := 2, ground := Ground.guard }], guard := some (2, true) }) (v := undef) rfl (by kernel_rfl) (by kernel_rfl) (by kernel_rfl) (fun _ _ _ h => h) (Or.inr ⟨by rfl, rfl⟩) hS ?_
    simp only [Act.put, List.setIfInBounds_toArray, List.set_cons_zero, List.set_cons_succ]
    refine wpAnyH_take (i := 6) (oi := { dst := some 22, op := Op.nilCheck (Operand.tmp 21), type := 0, pos := "model.go:154", after := #[{ on := 5, ground := Ground.data }, { on := 2, ground := Ground.guard }], guard := some (2, true) }) (v := undef) rfl (by kernel_rfl) (by kernel_rfl) (by kernel_rfl) (fun _ _ _ h => h) (Or.inr ⟨by rfl, rfl⟩) hS ?_
    simp only [Act.put, List.setIfInBounds_toArray, List.set_cons_zero, List.set_cons_succ]
    refine wpAnyH_take (i := 7) (oi := { dst := some 23, op := Op.fieldAddr 83 (Operand.tmp 22) 3, type := 0, pos := "model.go:154", after := #[{ on := 6, ground := Ground.data }, { on := 2, ground := Ground.guard }], guard := some (2, true) }) (v := undef) rfl (by kernel_rfl) (by kernel_rfl) (by kernel_rfl) (fun _ _ _ h => h) (Or.inr ⟨by rfl, rfl⟩) hS ?_
    simp only [Act.put, List.setIfInBounds_toArray, List.set_cons_zero, List.set_cons_succ]
    refine wpAnyH_take (i := 8) (oi := { dst := some 24, op := Op.load 3 (Operand.tmp 23), type := 3, pos := "model.go:154", after := #[{ on := 7, ground := Ground.data }, { on := 2, ground := Ground.guard }], guard := some (2, true) }) (v := undef) rfl (by kernel_rfl) (by kernel_rfl) (by kernel_rfl) (fun _ _ _ h => h) (Or.inr ⟨by rfl, rfl⟩) hS ?_
    simp only [Act.put, List.setIfInBounds_toArray, List.set_cons_zero, List.set_cons_succ]
    refine wpAnyH_take (i := 9) (oi := { dst := some 25, op := Op.nilCheck (Operand.tmp 20), type := 0, pos := "model.go:154", after := #[{ on := 4, ground := Ground.data }, { on := 2, ground := Ground.guard }], guard := some (2, true) }) (v := undef) rfl (by kernel_rfl) (by kernel_rfl) (by kernel_rfl) (fun _ _ _ h => h) (Or.inr ⟨by rfl, rfl⟩) hS ?_
    simp only [Act.put, List.setIfInBounds_toArray, List.set_cons_zero, List.set_cons_succ]
    refine wpAnyH_take (i := 10) (oi := { dst := some 26, op := Op.fieldAddr 83 (Operand.tmp 25) 10, type := 0, pos := "model.go:154", after := #[{ on := 9, ground := Ground.data }, { on := 2, ground := Ground.guard }], guard := some (2, true) }) (v := undef) rfl (by kernel_rfl) (by kernel_rfl) (by kernel_rfl) (fun _ _ _ h => h) (Or.inr ⟨by rfl, rfl⟩) hS ?_
    simp only [Act.put, List.setIfInBounds_toArray, List.set_cons_zero, List.set_cons_succ]
    refine wpAnyH_take (i := 11) (oi := { dst := some 27, op := Op.indexAddr 67 (Operand.tmp 26) (Operand.tmp 24), type := 0, pos := "model.go:154", after := #[{ on := 10, ground := Ground.data }, { on := 8, ground := Ground.data }, { on := 2, ground := Ground.guard }], guard := some (2, true) }) (v := undef) rfl (by kernel_rfl) (by kernel_rfl) (by kernel_rfl) (fun _ _ _ h => h) (Or.inr ⟨by rfl, rfl⟩) hS ?_
    simp only [Act.put, List.setIfInBounds_toArray, List.set_cons_zero, List.set_cons_succ]
    refine wpAnyH_take (i := 12) (oi := { dst := some 28, op := Op.slice 66 (Operand.tmp 27) none none none, type := 85, pos := "model.go:154", after := #[{ on := 11, ground := Ground.data }, { on := 2, ground := Ground.guard }], guard := some (2, true) }) (v := undef) rfl (by kernel_rfl) (by kernel_rfl) (by kernel_rfl) (fun _ _ _ h => h) (Or.inr ⟨by rfl, rfl⟩) hS ?_
    simp only [Act.put, List.setIfInBounds_toArray, List.set_cons_zero, List.set_cons_succ]
    refine wpAnyH_take (i := 13) (oi := { dst := some 29, op := Op.move (Operand.tmp 2), type := 3, pos := "model.go:154", after := #[{ on := 2, ground := Ground.guard }], guard := some (2, true) }) (v := undef) rfl (by kernel_rfl) (by kernel_rfl) (by kernel_rfl) (fun _ _ _ h => h) (Or.inr ⟨by rfl, rfl⟩) hS ?_
    simp only [Act.put, List.setIfInBounds_toArray, List.set_cons_zero, List.set_cons_succ]
    refine wpAnyH_take (i := 14) (oi := { dst := some 30, op := Op.fieldAddr 96 (Operand.tmp 7) 2, type := 0, pos := "model.go:154", after := #[{ on := 2, ground := Ground.guard }], guard := some (2, true) }) (v := undef) rfl (by kernel_rfl) (by kernel_rfl) (by kernel_rfl) (fun _ _ _ h => h) (Or.inr ⟨by rfl, rfl⟩) hS ?_
    simp only [Act.put, List.setIfInBounds_toArray, List.set_cons_zero, List.set_cons_succ]
    refine wpAnyH_take (i := 15) (oi := { dst := some 31, op := Op.load 3 (Operand.tmp 30), type := 3, pos := "model.go:154", after := #[{ on := 14, ground := Ground.data }, { on := 2, ground := Ground.guard }], guard := some (2, true) }) (v := undef) rfl (by kernel_rfl) (by kernel_rfl) (by kernel_rfl) (fun _ _ _ h => h) (Or.inr ⟨by rfl, rfl⟩) hS ?_
    simp only [Act.put, List.setIfInBounds_toArray, List.set_cons_zero, List.set_cons_succ]
    refine wpAnyH_take (i := 16) (oi := { dst := some 32, op := Op.binOp BinOp.neq 3 (Operand.tmp 31) (Operand.const (Value.int IntKind.i64 1)) 3, type := 4, pos := "model.go:154", after := #[{ on := 15, ground := Ground.data }, { on := 2, ground := Ground.guard }], guard := some (2, true) }) (v := undef) rfl (by kernel_rfl) (by kernel_rfl) (by kernel_rfl) (fun _ _ _ h => h) (Or.inr ⟨by rfl, rfl⟩) hS ?_
    simp only [Act.put, List.setIfInBounds_toArray, List.set_cons_zero, List.set_cons_succ]
    refine wpAnyH_take (i := 17) (oi := { dst := some 33, op := Op.call { callee := Callee.value (Operand.func 75), args := #[Operand.tmp 19, Operand.tmp 28, Operand.tmp 29, Operand.tmp 32], argTypes := #[142, 85, 3, 4] }, type := 3, pos := "model.go:154", after := #[{ on := 3, ground := Ground.data }, { on := 12, ground := Ground.data }, { on := 13, ground := Ground.data }, { on := 16, ground := Ground.data }, { on := 2, ground := Ground.chain }, { on := 2, ground := Ground.guard }], guard := some (2, true) }) (v := undef) rfl (by kernel_rfl) (by kernel_rfl) (by kernel_rfl) (fun _ _ _ h => h) (Or.inr ⟨by rfl, rfl⟩) hS ?_
    simp only [Act.put, List.setIfInBounds_toArray, List.set_cons_zero, List.set_cons_succ]
    refine wpAnyH_take (i := 18) (oi := { dst := some 34, op := Op.binOp BinOp.eql 3 (Operand.tmp 33) (Operand.const (Value.int IntKind.i64 0)) 3, type := 4, pos := "model.go:154", after := #[{ on := 17, ground := Ground.data }, { on := 2, ground := Ground.guard }], guard := some (2, true) }) (v := undef) rfl (by kernel_rfl) (by kernel_rfl) (by kernel_rfl) (fun _ _ _ h => h) (Or.inr ⟨by rfl, rfl⟩) hS ?_
    simp only [Act.put, List.setIfInBounds_toArray, List.set_cons_zero, List.set_cons_succ]
    refine wpAnyH_take (i := 19) (oi := { dst := some 35, op := Op.pick (Operand.tmp 18) (Operand.tmp 34) (Operand.const (Value.bool false)), type := 4, pos := "model.go:154", after := #[{ on := 2, ground := Ground.data }, { on := 18, ground := Ground.data }], guard := none }) (v := ?vrb86) rfl (by kernel_rfl) (by kernel_rfl) (by kernel_rfl) (fun _ _ _ h => h) (Or.inl ⟨by rfl, ?yrb86⟩) hS ?_
    case yrb86 =>
      intro w hSw
      go_simp; all_goals (with_reducible rfl)
    simp only [Act.put, List.setIfInBounds_toArray, List.set_cons_zero, List.set_cons_succ]
    refine wpAnyH_done (by kernel_rfl) ?_ _

    clear hS hdr
    have hdr := cell_only HO4.out.1 hbo.out.1 HSY.out.2.2.1
    have HLEN := Lib.hid (len_is io (HM4.out.drewN 2) HZ.out (k := k) (io.le HOK4.out (by omega)) (.inr rfl) hp hl0 hl1)
    go_upto_region 5 with fail
    refine wp_region_held_drew (S := fun w2 => w2.cell? ⟨w.heap.size, 2, none⟩ = some (.int .i64 l)) (by kernel_rfl) hdr (fun hS => ?_)
    refine wpAnyH_take (i := 0) (oi := { dst := some 45, op := Op.move (Operand.tmp 0), type := 39, pos := "model.go:158", after := #[], guard := none }) (v := ?vrt87) rfl (by kernel_rfl) (by kernel_rfl) (by kernel_rfl) (fun _ _ _ h => h) (Or.inl ⟨by rfl, ?yrt87⟩) hS ?_
    case yrt87 =>
      intro w hSw
      go_simp; all_goals (with_reducible rfl)
    simp only [Act.put, List.setIfInBounds_toArray, List.set_cons_zero, List.set_cons_succ]
    refine wpAnyH_take (i := 1) (oi := { dst := some 46, op := Op.nilCheck (Operand.tmp 45), type := 0, pos := "model.go:158", after := #[{ on := 0, ground := Ground.data }], guard := none }) (v := ?vrt88) rfl (by kernel_rfl) (by kernel_rfl) (by kernel_rfl) (fun _ _ _ h => h) (Or.inl ⟨by rfl, ?yrt88⟩) hS ?_
    case yrt88 =>
      intro w hSw
      go_simp; all_goals (with_reducible rfl)
    simp only [Act.put, List.setIfInBounds_toArray, List.set_cons_zero, List.set_cons_succ]
    refine wpAnyH_take (i := 2) (oi := { dst := some 47, op := Op.fieldAddr 83 (Operand.tmp 46) 13, type := 0, pos := "model.go:158", after := #[{ on := 1, ground := Ground.data }], guard := none }) (v := ?vrt89) rfl (by kernel_rfl) (by kernel_rfl) (by kernel_rfl) (fun _ _ _ h => h) (Or.inl ⟨by rfl, ?yrt89⟩) hS ?_
    case yrt89 =>
      intro w hSw
      go_simp; all_goals (with_reducible rfl)
    simp only [Act.put, List.setIfInBounds_toArray, List.set_cons_zero, List.set_cons_succ]
    refine wpAnyH_take (i := 3) (oi := { dst := some 48, op := Op.move (Operand.tmp 1), type := 142, pos := "model.go:158", after := #[], guard := none }) (v := ?vrt90) rfl (by kernel_rfl) (by kernel_rfl) (by kernel_rfl) (fun _ _ _ h => h) (Or.inl ⟨by rfl, ?yrt90⟩) hS ?_
    case yrt90 =>
      intro w hSw
      go_simp; all_goals (with_reducible rfl)
    simp only [Act.put, List.setIfInBounds_toArray, List.set_cons_zero, List.set_cons_succ]
    refine wpAnyH_take (i := 4) (oi := { dst := some 49, op := Op.move (Operand.tmp 2), type := 3, pos := "model.go:158", after := #[], guard := none }) (v := ?vrt91) rfl (by kernel_rfl) (by kernel_rfl) (by kernel_rfl) (fun _ _ _ h => h) (Or.inl ⟨by rfl, ?yrt91⟩) hS ?_
    case yrt91 =>
      intro w hSw
      go_simp; all_goals (with_reducible rfl)
    simp only [Act.put, List.setIfInBounds_toArray, List.set_cons_zero, List.set_cons_succ]
    refine wpAnyH_take (i := 5) (oi := { dst := some 50, op := Op.fieldAddr 96 (Operand.tmp 7) 2, type := 0, pos := "model.go:158", after := #[], guard := none }) (v := ?vrt92) rfl (by kernel_rfl) (by kernel_rfl) (by kernel_rfl) (fun _ _ _ h => h) (Or.inl ⟨by rfl, ?yrt92⟩) hS ?_
    case yrt92 =>
      intro w hSw
      go_simp; all_goals (with_reducible rfl)
    simp only [Act.put, List.setIfInBounds_toArray, List.set_cons_zero, List.set_cons_succ]
    refine wpAnyH_take (i := 6) (oi := { dst := some 51, op := Op.load 3 (Operand.tmp 50), type := 3, pos := "model.go:158", after := #[{ on := 5, ground := Ground.data }], guard := none }) (v := ?vrt93) rfl (by kernel_rfl) (by kernel_rfl) (by kernel_rfl) (fun _ _ _ h => h) (Or.inl ⟨by rfl, ?yrt93⟩) hS ?_
    case yrt93 =>
      intro w hSw
      have q1 := hSw
      go_simp; all_goals (with_reducible rfl)
    simp only [Act.put, List.setIfInBounds_toArray, List.set_cons_zero, List.set_cons_succ]
    refine wpAnyH_ready (rs := [7]) (by kernel_rfl) (by simp) ?_
    refine (AllReadyH.cons (o := { dst := some 52, op := Op.call { callee := Callee.value (Operand.func 90), args := #[Operand.tmp 47, Operand.tmp 48, Operand.tmp 49, Operand.tmp 51], argTypes := #[75, 142, 3, 3] }, type := 3, pos := "model.go:158", after := #[{ on := 2, ground := Ground.data }, { on := 3, ground := Ground.data }, { on := 4, ground := Ground.data }, { on := 6, ground := Ground.data }], guard := none }) rfl (fun K hK => ?_) AllReadyH.nil)
    go_simp
    refine HLEN.out.mono ?_
    rintro e x6 ⟨⟨rfl, hw6⟩, hn1, hn2, ok6⟩
    obtain ⟨X6, hM6, hon6, hX6⟩ := went_trans_undrew HO4.out hw6
    have g6 := cell_only hon6 hbo.out.1 HSY.out.2.2.1
    have HM6 := Lib.hid hM6
    have HO6 := Lib.hid (And.intro hon6 hX6)
    have HOK6 := Lib.hid ok6
    have HN6 := Lib.hid (And.intro hn1 hn2)
    have hn6i : (n2 : Int) ≤ 273 := by omega
    clear hM6 hon6 hX6 ok6 hn1 hn2 hw6
    go_wp2_with fail
    refine hK.out _ _ g6 (fun _ => ?_)
    clear hK K
    refine wpAnyH_take (i := 8) (oi := { dst := some 10, op := Op.assign (Operand.tmp 52), type := 3, pos := "model.go:158", after := #[{ on := 7, ground := Ground.data }, { on := 7, ground := Ground.chain }, { on := 0, ground := Ground.phase }, { on := 1, ground := Ground.phase }, { on := 2, ground := Ground.phase }, { on := 3, ground := Ground.phase }, { on := 4, ground := Ground.phase }, { on := 5, ground := Ground.phase }, { on := 6, ground := Ground.phase }, { on := 7, ground := Ground.phase }], guard := none }) (v := ?vrt94) rfl (by kernel_rfl) (by kernel_rfl) (by kernel_rfl) (fun _ _ _ h => h) (Or.inl ⟨by rfl, ?yrt94⟩) g6 ?_
    case yrt94 =>
      intro w hSw
      go_simp; all_goals (with_reducible rfl)
    simp only [Act.put, List.setIfInBounds_toArray, List.set_cons_zero, List.set_cons_succ]
    refine wpAnyH_done (by kernel_rfl) ?_ _
    clear hS hdr HLEN g6
    obtain ⟨_, _, _, _, c4, c5, c6, c7⟩ := HM6.out.mod.cells
    have HFR := Lib.hid (front_any HM6.out.mod v (by omega) (r4 r.1 r.2.1 r.2.2.1 r.2.2.2 v))
    rw [HR'.out] at HFR
    have HNX : Hid (∀ i ∈ X6, i ∈ X ∨ W1.heap.size ≤ i) := Lib.hid HO6.out.2
    have hsel : x6.cell? ⟨C, 4 + v, none⟩ = some (.int .i64 (r4 r.1 r.2.1 r.2.2.1 r.2.2.2 v)) := by
      have h3 : v ≤ 3 := by omega
      rcases (by omega : v = 0 ∨ v = 1 ∨ v = 2 ∨ v = 3) with h | h | h | h
      · rw [h]; exact c4
      · rw [h]; exact c5
      · rw [h]; exact c6
      · rw [h]; exact c7
    obtain ⟨RQ, hRQ⟩ : ∃ RQ, r4 r.1 r.2.1 r.2.2.1 r.2.2.2 v = RQ := ⟨_, rfl⟩
    rw [hRQ] at hsel HFR
    clear hRQ c4 c5 c6 c7
    go_wp2_with fail
    refine HFR.out.mono ?_
    rintro e x7 ⟨rfl, hm7, ho7⟩
    have hM7 := HM6.out.front hm7 ho7
    have hon7 : Only (C :: L :: X) W1 x7 := HO6.out.1.trans ho7 (fun i hi => .inl (by simp at hi; simp [hi]))
    have HM7 := Lib.hid hM7
    have HON := Lib.hid hon7
    obtain ⟨_, _, _, c3, _⟩ := hM7.mod.cells
    have f3 := hM7.mod.frozenC 3
    have hAF := after2_any st 8 11 x7
    rw [show (if st < 7 then 8 else 11) = ls from by rw [← HLSS.out]; split; rw [if_neg (by have := HN6.out.1; omega)]; rfl] at hAF
    have HAF := Lib.hid hAF
    have hrs := (HON.out.block bs (by have := (Array.getElem?_eq_some_iff.1 HRS.out).1; exact this) hbo.out.2).trans HRS.out
    have z0 : x7.cell? ⟨bs, 0, none⟩ = some (.int .i64 0) := by rw [cell_of_row x7 _ _ _ _ _ hrs]; rfl
    have z1 : x7.cell? ⟨bs, 1, none⟩ = some (.int .u8 0) := by rw [cell_of_row x7 _ _ _ _ _ hrs]; rfl
    have z2 : x7.cell? ⟨bs, 2, none⟩ = some (.int .i64 0) := by rw [cell_of_row x7 _ _ _ _ _ hrs]; rfl
    have z3 : x7.cell? ⟨bs, 3, none⟩ = some (.int .i64 0) := by rw [cell_of_row x7 _ _ _ _ _ hrs]; rfl
    have z4 : x7.cell? ⟨bs, 4, none⟩ = some (.int .i64 0) := by rw [cell_of_row x7 _ _ _ _ _ hrs]; rfl
    have zf : ∀ i, x7.frozen? ⟨bs, i, none⟩ = false := fun i => frozen_of_row _ _ _ _ _ hrs
    have zf0 := zf 0
    have zf1 := zf 1
    have zf2 := zf 2
    have zf3 := zf 3
    have zf4 := zf 4
    clear hrs zf
    clear hm7 ho7 hM7 hon7 hAF HFR hsel
    go_wp2_with fail
    refine HAF.out.mono ?_
    rintro e x8 ⟨rfl, rfl⟩
    go_wp2_with fail
    refine bodyPost_ret (v := SyV 2 0 (n2 : Nat) 0 ((v : Nat) : Int)) (by simp [results, Tryz.results78, go_sem, z0, z1, z2, z3, z4]) rfl ⟨⟨rfl, X6, ?_, ?_, ?_⟩, by rw [← HQ.out]; have := HN6.out; exact ⟨by omega, by omega, by omega, by omega, HOK6.out⟩⟩
    · have hbX : bs ∉ C :: L :: X6 := fun h => by
        simp only [List.mem_cons] at h
        rcases h with h | h | h
        · exact ne2 h
        · have := HOUT.out L (by simp); have := HBS.out; omega
        · rcases HNX.out _ h with h | h
          · have := HOUT.out bs (by simp [h]); have := HBS.out; omega
          · have := (Array.getElem?_eq_some_iff.1 HRS.out).1; omega
      exact (((((HM7.out.setHead (k := 3) (st' := ls) (r' := r') (by decide) rfl).setFar hbX _).setFar hbX _).setFar hbX _).setFar hbX _).setFar hbX _
    · have h0 : Only (C :: L :: X) w x7 := (Only.of_below HB1.out).trans HON.out (fun i hi => .inl hi)
      have hn : bs ∈ C :: L :: X ∨ w.heap.size ≤ bs := .inr (by have := HBS.out; omega)
      exact (((((h0.setCell (p := ⟨C, 3, none⟩) (.inl (by simp)) _).setCell (p := ⟨bs, 0, none⟩) hn _).setCell (p := ⟨bs, 1, none⟩) hn _).setCell (p := ⟨bs, 2, none⟩) hn _).setCell (p := ⟨bs, 3, none⟩) hn _).setCell (p := ⟨bs, 4, none⟩) hn _
    · intro i hi
      rcases HNX.out i hi with h | h
      · exact .inl h
      · exact .inr (Nat.le_trans HB1.out.size h)
end Go.Proofs.YtklkboplkobhgaaGreat
