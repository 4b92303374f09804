/- A filter of four bytes, by the reference. -/
import Derived.Test.YtaggkcgeddoogaaDoorChRRead
import Derived.Deep.RegionHeld3
namespace Go.Proofs.YtaggkcgeddoogaaDoor
open Go.RowKit

set_option maxRecDepth 100000 in
set_option maxHeartbeats 4000000 in
theorem rread_4 (id : Int) (h33 : id ≠ 33) (h3 : id ≠ 3) (b off c : Nat) (x0 x1 x2 x3 : UInt8) (w : World) (hb : b < w.heap.size) (h0 : w.cell? ⟨b, off, none⟩ = some (B8 x0)) (h1 : w.cell? ⟨b, off + 1, none⟩ = some (B8 x1)) (h2 : w.cell? ⟨b, off + 2, none⟩ = some (B8 x2)) (h3' : w.cell? ⟨b, off + 3, none⟩ = some (B8 x3)) :
    Calls Tryd.prog 65 #[.int .i64 id, .slice (some ⟨b, off, none⟩) 4 c] w (if mayB id (word true x0 x1 x2 x3) = true then FilT w id (word true x0 x1 x2 x3) (.bool true) else FilT w 0 0 (.bool false)) := by
  have p0 := x0.toNat_lt
  have p1 := x1.toNat_lt
  have p2 := x2.toNat_lt
  have p3 := x3.toNat_lt
  have hwd : word true x0 x1 x2 x3 = numTo x3.toNat x2.toNat x1.toNat x0.toNat 4 := by rw [num4]; simp only [word, if_true]; omega
  have HW := Lib.hid hwd
  have HM := Lib.hid (may_any id (word true x0 x1 x2 x3))
  have hRl := word_lt true x0 x1 x2 x3
  clear hwd
  generalize word true x0 x1 x2 x3 = R at *
  generalize mayB id R = M at *
  have d33 : (id == 33) = false := by simp [h33]
  have d3 : (id == 3) = false := by simp [h3]
  have hst := RdAt.start w id
  clear h33 h3
  go_enter Tryd.func65, Tryd.ntmps65
  go_wp2_with fail
  go_loopw [7] (fun i wr => ∃ k : Nat, k ≤ 4 ∧ i = .int .i64 (3 - (k : Int)) ∧ RdAt w wr id (numTo x3.toNat x2.toNat x1.toNat x0.toNat k)) (fun i _ => (intOf i + 1).toNat)
  case atStart => exact ⟨0, by omega, rfl, by rw [num0]; exact hst⟩
  case round =>
    clear hst
    obtain ⟨k, hk, rfl, hR⟩ := hrel
    have hcase : k = 0 ∨ k = 1 ∨ k = 2 ∨ k = 3 ∨ k = 4 := by omega
    have hbl := hR.below
    have hbr : b < wr.heap.size := Nat.lt_of_lt_of_le hb hbl.size
    rcases hcase with rfl | rfl | rfl | rfl | rfl
    · have hrn : numTo x3.toNat x2.toNat x1.toNat x0.toNat 0 < 16777216 := by rw [num0]; omega
      have hnx : ((numTo x3.toNat x2.toNat x1.toNat x0.toNat 1 : Nat) : Int) = 256 * ((numTo x3.toNat x2.toNat x1.toNat x0.toNat 0 : Nat) : Int) + (x3.toNat : Int) := by rw [num0, num1]; omega
      have hnl : numTo x3.toNat x2.toNat x1.toNat x0.toNat 1 < 4294967296 := by rw [num1]; omega
      have kx : wr.drew.cell? ⟨b, off + 3, none⟩ = some (B8 x3) := (hbl.cell (p := ⟨b, off + 3, none⟩) hb).trans h3'
      have HS := Lib.hid (hR.store (numTo x3.toNat x2.toNat x1.toNat x0.toNat 1)).drew
      have hf1 := hR.f1
      have hzf := hR.zf
      have HK : Hid ((wr.setCell ⟨w.heap.size + 1, 1, none⟩ (.int .u32 (numTo x3.toNat x2.toNat x1.toNat x0.toNat 1 : Nat))).drew.cell? ⟨b, off + 3, none⟩ = some (B8 x3)) := Lib.hid ((World.cell?_setCell_other _ _ _ _ (by simp <;> omega)).trans kx)
      have HX := Lib.hid hnx
      generalize numTo x3.toNat x2.toNat x1.toNat x0.toNat 0 = N at *
      generalize hN1 : numTo x3.toNat x2.toNat x1.toNat x0.toNat 1 = N1 at *
      have HN1 := Lib.hid hN1
      clear hN1
      have HW8 : Hid (IntKind.u32.wrap (IntKind.u32.wrap (256 * (N : Int)) + IntKind.u32.wrap (x3.toNat : Int)) = (N1 : Int)) := by
        apply Lib.hid
        rw [IntKind.wrap_u32, IntKind.wrap_u32, IntKind.wrap_u32]; omega
      have HR := Lib.hid hR
      clear hR hnx
      have e3 : (3 : Int) - ((0 : Nat) : Int) = 3 := by omega
      rw [e3]
      go_wp2_with fail
      refine wp_region_held_drew (S := fun w' => w'.cell? ⟨b, off + 3, none⟩ = some (B8 x3)) (by kernel_rfl) kx (fun hS => ?_)
      refine wpAnyH_take (i := 0) (oi := { dst := some 57, op := Op.fieldAddr 48 (Operand.tmp 6) 1, type := 0, pos := "ref.go:121", after := #[], guard := none }) (v := ?va11) rfl (by kernel_rfl) (by kernel_rfl) (by kernel_rfl) (fun _ _ _ h => h) (Or.inl ⟨by rfl, ?ya11⟩) hS ?_
      case ya11 =>
        intro w hSw
        go_simp; all_goals (with_reducible rfl)
      simp only [Act.put, List.setIfInBounds_toArray, List.set_cons_zero, List.set_cons_succ]
      refine wpAnyH_take (i := 3) (oi := { dst := some 60, op := Op.move (Operand.tmp 1), type := 26, pos := "ref.go:121", after := #[], guard := none }) (v := ?va12) rfl (by kernel_rfl) (by kernel_rfl) (by kernel_rfl) (fun _ _ _ h => h) (Or.inl ⟨by rfl, ?ya12⟩) hS ?_
      case ya12 =>
        intro w hSw
        go_simp; all_goals (with_reducible rfl)
      simp only [Act.put, List.setIfInBounds_toArray, List.set_cons_zero, List.set_cons_succ]
      refine wpAnyH_take (i := 4) (oi := { dst := some 61, op := Op.move (Operand.tmp 7), type := 3, pos := "ref.go:121", after := #[], guard := none }) (v := ?va13) rfl (by kernel_rfl) (by kernel_rfl) (by kernel_rfl) (fun _ _ _ h => h) (Or.inl ⟨by rfl, ?ya13⟩) hS ?_
      case ya13 =>
        intro w hSw
        go_simp; all_goals (with_reducible rfl)
      simp only [Act.put, List.setIfInBounds_toArray, List.set_cons_zero, List.set_cons_succ]
      refine wpAnyH_take (i := 5) (oi := { dst := some 62, op := Op.indexAddr 26 (Operand.tmp 60) (Operand.tmp 61), type := 0, pos := "ref.go:121", after := #[{ on := 3, ground := Ground.data }, { on := 4, ground := Ground.data }], guard := none }) (v := ?va14) rfl (by kernel_rfl) (by kernel_rfl) (by kernel_rfl) (fun _ _ _ h => h) (Or.inl ⟨by rfl, ?ya14⟩) hS ?_
      case ya14 =>
        intro w hSw
        go_simp; all_goals (with_reducible rfl)
      simp only [Act.put, List.setIfInBounds_toArray, List.set_cons_zero, List.set_cons_succ]
      refine wpAnyH_take (i := 6) (oi := { dst := some 63, op := Op.load 5 (Operand.tmp 62), type := 5, pos := "ref.go:121", after := #[{ on := 5, ground := Ground.data }], guard := none }) (v := ?va15) rfl (by kernel_rfl) (by kernel_rfl) (by kernel_rfl) (fun _ _ _ h => h) (Or.inl ⟨by rfl, ?ya15⟩) hS ?_
      case ya15 =>
        intro w hSw
        have j0 := hSw
        go_simp; all_goals (with_reducible rfl)
      simp only [Act.put, List.setIfInBounds_toArray, List.set_cons_zero, List.set_cons_succ]
      refine wpAnyH_take (i := 7) (oi := { dst := some 64, op := Op.convert 5 23 (Operand.tmp 63), type := 23, pos := "ref.go:121", after := #[{ on := 6, ground := Ground.data }], guard := none }) (v := ?va16) rfl (by kernel_rfl) (by kernel_rfl) (by kernel_rfl) (fun _ _ _ h => h) (Or.inl ⟨by rfl, ?ya16⟩) hS ?_
      case ya16 =>
        intro w hSw
        go_simp; all_goals (with_reducible rfl)
      simp only [Act.put, List.setIfInBounds_toArray, List.set_cons_zero, List.set_cons_succ]
      refine wpAnyH_ready (rs := [1]) (by kernel_rfl) (by simp) ?_
      refine (AllReadyH.cons (o := { dst := some 58, op := Op.load 23 (Operand.tmp 57), type := 23, pos := "ref.go:121", after := #[{ on := 0, ground := Ground.data }], guard := none }) rfl (fun K hK => ?_) AllReadyH.nil)
      go_simp
      refine hK.out _ _ hS (fun _ => ?_)
      clear hK K
      refine wpAnyH_take (i := 2) (oi := { dst := some 59, op := Op.binOp BinOp.mul 23 (Operand.const (Value.int IntKind.u32 256)) (Operand.tmp 58) 23, type := 23, pos := "ref.go:121", after := #[{ on := 1, ground := Ground.data }], guard := none }) (v := ?va17) rfl (by kernel_rfl) (by kernel_rfl) (by kernel_rfl) (fun _ _ _ h => h) (Or.inl ⟨by rfl, ?ya17⟩) hS ?_
      case ya17 =>
        intro w hSw
        go_simp; all_goals (with_reducible rfl)
      simp only [Act.put, List.setIfInBounds_toArray, List.set_cons_zero, List.set_cons_succ]
      refine wpAnyH_take (i := 8) (oi := { dst := some 65, op := Op.binOp BinOp.add 23 (Operand.tmp 59) (Operand.tmp 64) 23, type := 23, pos := "ref.go:121", after := #[{ on := 2, ground := Ground.data }, { on := 7, ground := Ground.data }], guard := none }) (v := ?va18) rfl (by kernel_rfl) (by kernel_rfl) (by kernel_rfl) (fun _ _ _ h => h) (Or.inl ⟨by rfl, ?ya18⟩) hS ?_
      case ya18 =>
        intro w hSw
        go_simp; all_goals (with_reducible rfl)
      simp only [Act.put, List.setIfInBounds_toArray, List.set_cons_zero, List.set_cons_succ]
      rw [HW8.out]
      refine wpAnyH_take (i := 9) (oi := { dst := some 66, op := Op.fieldAddr 48 (Operand.tmp 6) 1, type := 0, pos := "ref.go:121", after := #[{ on := 0, ground := Ground.phase }, { on := 1, ground := Ground.phase }, { on := 2, ground := Ground.phase }, { on := 3, ground := Ground.phase }, { on := 4, ground := Ground.phase }, { on := 5, ground := Ground.phase }, { on := 6, ground := Ground.phase }, { on := 7, ground := Ground.phase }, { on := 8, ground := Ground.phase }], guard := none }) (v := ?va19) rfl (by kernel_rfl) (by kernel_rfl) (by kernel_rfl) (fun _ _ _ h => h) (Or.inl ⟨by rfl, ?ya19⟩) hS ?_
      case ya19 =>
        intro w hSw
        go_simp; all_goals (with_reducible rfl)
      simp only [Act.put, List.setIfInBounds_toArray, List.set_cons_zero, List.set_cons_succ]
      refine wpAnyH_ready (rs := [10]) (by kernel_rfl) (by simp) ?_
      refine (AllReadyH.cons (o := { dst := none, op := Op.store 23 (Operand.tmp 66) (Operand.tmp 65), type := 0, pos := "ref.go:121", after := #[{ on := 9, ground := Ground.data }, { on := 8, ground := Ground.data }, { on := 0, ground := Ground.phase }, { on := 1, ground := Ground.phase }, { on := 2, ground := Ground.phase }, { on := 3, ground := Ground.phase }, { on := 4, ground := Ground.phase }, { on := 5, ground := Ground.phase }, { on := 6, ground := Ground.phase }, { on := 7, ground := Ground.phase }, { on := 8, ground := Ground.phase }], guard := none }) rfl (fun K hK => ?_) AllReadyH.nil)
      go_simp
      refine hK.out _ _ HK.out (fun _ => ?_)
      clear hK K
      refine wpAnyH_done (by kernel_rfl) ?_ _
      go_wp2_with fail
      go_roundw
      case rel => exact ⟨1, by omega, rfl, by rw [HN1.out]; exact HS.out⟩
      case measure => simp [intOf]
    · have hrn : numTo x3.toNat x2.toNat x1.toNat x0.toNat 1 < 16777216 := by rw [num1]; omega
      have hnx : ((numTo x3.toNat x2.toNat x1.toNat x0.toNat 2 : Nat) : Int) = 256 * ((numTo x3.toNat x2.toNat x1.toNat x0.toNat 1 : Nat) : Int) + (x2.toNat : Int) := by rw [num1, num2]; omega
      have hnl : numTo x3.toNat x2.toNat x1.toNat x0.toNat 2 < 4294967296 := by rw [num2]; omega
      have kx : wr.drew.cell? ⟨b, off + 2, none⟩ = some (B8 x2) := (hbl.cell (p := ⟨b, off + 2, none⟩) hb).trans h2
      have HS := Lib.hid (hR.store (numTo x3.toNat x2.toNat x1.toNat x0.toNat 2)).drew
      have hf1 := hR.f1
      have hzf := hR.zf
      have HK : Hid ((wr.setCell ⟨w.heap.size + 1, 1, none⟩ (.int .u32 (numTo x3.toNat x2.toNat x1.toNat x0.toNat 2 : Nat))).drew.cell? ⟨b, off + 2, none⟩ = some (B8 x2)) := Lib.hid ((World.cell?_setCell_other _ _ _ _ (by simp <;> omega)).trans kx)
      have HX := Lib.hid hnx
      generalize numTo x3.toNat x2.toNat x1.toNat x0.toNat 1 = N at *
      generalize hN1 : numTo x3.toNat x2.toNat x1.toNat x0.toNat 2 = N1 at *
      have HN1 := Lib.hid hN1
      clear hN1
      have HW8 : Hid (IntKind.u32.wrap (IntKind.u32.wrap (256 * (N : Int)) + IntKind.u32.wrap (x2.toNat : Int)) = (N1 : Int)) := by
        apply Lib.hid
        rw [IntKind.wrap_u32, IntKind.wrap_u32, IntKind.wrap_u32]; omega
      have HR := Lib.hid hR
      clear hR hnx
      have e3 : (3 : Int) - ((1 : Nat) : Int) = 2 := by omega
      rw [e3]
      go_wp2_with fail
      refine wp_region_held_drew (S := fun w' => w'.cell? ⟨b, off + 2, none⟩ = some (B8 x2)) (by kernel_rfl) kx (fun hS => ?_)
      refine wpAnyH_take (i := 0) (oi := { dst := some 57, op := Op.fieldAddr 48 (Operand.tmp 6) 1, type := 0, pos := "ref.go:121", after := #[], guard := none }) (v := ?vb20) rfl (by kernel_rfl) (by kernel_rfl) (by kernel_rfl) (fun _ _ _ h => h) (Or.inl ⟨by rfl, ?yb20⟩) hS ?_
      case yb20 =>
        intro w hSw
        go_simp; all_goals (with_reducible rfl)
      simp only [Act.put, List.setIfInBounds_toArray, List.set_cons_zero, List.set_cons_succ]
      refine wpAnyH_take (i := 3) (oi := { dst := some 60, op := Op.move (Operand.tmp 1), type := 26, pos := "ref.go:121", after := #[], guard := none }) (v := ?vb21) rfl (by kernel_rfl) (by kernel_rfl) (by kernel_rfl) (fun _ _ _ h => h) (Or.inl ⟨by rfl, ?yb21⟩) hS ?_
      case yb21 =>
        intro w hSw
        go_simp; all_goals (with_reducible rfl)
      simp only [Act.put, List.setIfInBounds_toArray, List.set_cons_zero, List.set_cons_succ]
      refine wpAnyH_take (i := 4) (oi := { dst := some 61, op := Op.move (Operand.tmp 7), type := 3, pos := "ref.go:121", after := #[], guard := none }) (v := ?vb22) rfl (by kernel_rfl) (by kernel_rfl) (by kernel_rfl) (fun _ _ _ h => h) (Or.inl ⟨by rfl, ?yb22⟩) hS ?_
      case yb22 =>
        intro w hSw
        go_simp; all_goals (with_reducible rfl)
      simp only [Act.put, List.setIfInBounds_toArray, List.set_cons_zero, List.set_cons_succ]
      refine wpAnyH_take (i := 5) (oi := { dst := some 62, op := Op.indexAddr 26 (Operand.tmp 60) (Operand.tmp 61), type := 0, pos := "ref.go:121", after := #[{ on := 3, ground := Ground.data }, { on := 4, ground := Ground.data }], guard := none }) (v := ?vb23) rfl (by kernel_rfl) (by kernel_rfl) (by kernel_rfl) (fun _ _ _ h => h) (Or.inl ⟨by rfl, ?yb23⟩) hS ?_
      case yb23 =>
        intro w hSw
        go_simp; all_goals (with_reducible rfl)
      simp only [Act.put, List.setIfInBounds_toArray, List.set_cons_zero, List.set_cons_succ]
      refine wpAnyH_take (i := 6) (oi := { dst := some 63, op := Op.load 5 (Operand.tmp 62), type := 5, pos := "ref.go:121", after := #[{ on := 5, ground := Ground.data }], guard := none }) (v := ?vb24) rfl (by kernel_rfl) (by kernel_rfl) (by kernel_rfl) (fun _ _ _ h => h) (Or.inl ⟨by rfl, ?yb24⟩) hS ?_
      case yb24 =>
        intro w hSw
        have j0 := hSw
        go_simp; all_goals (with_reducible rfl)
      simp only [Act.put, List.setIfInBounds_toArray, List.set_cons_zero, List.set_cons_succ]
      refine wpAnyH_take (i := 7) (oi := { dst := some 64, op := Op.convert 5 23 (Operand.tmp 63), type := 23, pos := "ref.go:121", after := #[{ on := 6, ground := Ground.data }], guard := none }) (v := ?vb25) rfl (by kernel_rfl) (by kernel_rfl) (by kernel_rfl) (fun _ _ _ h => h) (Or.inl ⟨by rfl, ?yb25⟩) hS ?_
      case yb25 =>
        intro w hSw
        go_simp; all_goals (with_reducible rfl)
      simp only [Act.put, List.setIfInBounds_toArray, List.set_cons_zero, List.set_cons_succ]
      refine wpAnyH_ready (rs := [1]) (by kernel_rfl) (by simp) ?_
      refine (AllReadyH.cons (o := { dst := some 58, op := Op.load 23 (Operand.tmp 57), type := 23, pos := "ref.go:121", after := #[{ on := 0, ground := Ground.data }], guard := none }) rfl (fun K hK => ?_) AllReadyH.nil)
      go_simp
      refine hK.out _ _ hS (fun _ => ?_)
      clear hK K
      refine wpAnyH_take (i := 2) (oi := { dst := some 59, op := Op.binOp BinOp.mul 23 (Operand.const (Value.int IntKind.u32 256)) (Operand.tmp 58) 23, type := 23, pos := "ref.go:121", after := #[{ on := 1, ground := Ground.data }], guard := none }) (v := ?vb26) rfl (by kernel_rfl) (by kernel_rfl) (by kernel_rfl) (fun _ _ _ h => h) (Or.inl ⟨by rfl, ?yb26⟩) hS ?_
      case yb26 =>
        intro w hSw
        go_simp; all_goals (with_reducible rfl)
      simp only [Act.put, List.setIfInBounds_toArray, List.set_cons_zero, List.set_cons_succ]
      refine wpAnyH_take (i := 8) (oi := { dst := some 65, op := Op.binOp BinOp.add 23 (Operand.tmp 59) (Operand.tmp 64) 23, type := 23, pos := "ref.go:121", after := #[{ on := 2, ground := Ground.data }, { on := 7, ground := Ground.data }], guard := none }) (v := ?vb27) rfl (by kernel_rfl) (by kernel_rfl) (by kernel_rfl) (fun _ _ _ h => h) (Or.inl ⟨by rfl, ?yb27⟩) hS ?_
      case yb27 =>
        intro w hSw
        go_simp; all_goals (with_reducible rfl)
      simp only [Act.put, List.setIfInBounds_toArray, List.set_cons_zero, List.set_cons_succ]
      rw [HW8.out]
      refine wpAnyH_take (i := 9) (oi := { dst := some 66, op := Op.fieldAddr 48 (Operand.tmp 6) 1, type := 0, pos := "ref.go:121", after := #[{ on := 0, ground := Ground.phase }, { on := 1, ground := Ground.phase }, { on := 2, ground := Ground.phase }, { on := 3, ground := Ground.phase }, { on := 4, ground := Ground.phase }, { on := 5, ground := Ground.phase }, { on := 6, ground := Ground.phase }, { on := 7, ground := Ground.phase }, { on := 8, ground := Ground.phase }], guard := none }) (v := ?vb28) rfl (by kernel_rfl) (by kernel_rfl) (by kernel_rfl) (fun _ _ _ h => h) (Or.inl ⟨by rfl, ?yb28⟩) hS ?_
      case yb28 =>
        intro w hSw
        go_simp; all_goals (with_reducible rfl)
      simp only [Act.put, List.setIfInBounds_toArray, List.set_cons_zero, List.set_cons_succ]
      refine wpAnyH_ready (rs := [10]) (by kernel_rfl) (by simp) ?_
      refine (AllReadyH.cons (o := { dst := none, op := Op.store 23 (Operand.tmp 66) (Operand.tmp 65), type := 0, pos := "ref.go:121", after := #[{ on := 9, ground := Ground.data }, { on := 8, ground := Ground.data }, { on := 0, ground := Ground.phase }, { on := 1, ground := Ground.phase }, { on := 2, ground := Ground.phase }, { on := 3, ground := Ground.phase }, { on := 4, ground := Ground.phase }, { on := 5, ground := Ground.phase }, { on := 6, ground := Ground.phase }, { on := 7, ground := Ground.phase }, { on := 8, ground := Ground.phase }], guard := none }) rfl (fun K hK => ?_) AllReadyH.nil)
      go_simp
      refine hK.out _ _ HK.out (fun _ => ?_)
      clear hK K
      refine wpAnyH_done (by kernel_rfl) ?_ _
      go_wp2_with fail
      go_roundw
      case rel => exact ⟨2, by omega, rfl, by rw [HN1.out]; exact HS.out⟩
      case measure => simp [intOf]
    · have hrn : numTo x3.toNat x2.toNat x1.toNat x0.toNat 2 < 16777216 := by rw [num2]; omega
      have hnx : ((numTo x3.toNat x2.toNat x1.toNat x0.toNat 3 : Nat) : Int) = 256 * ((numTo x3.toNat x2.toNat x1.toNat x0.toNat 2 : Nat) : Int) + (x1.toNat : Int) := by rw [num2, num3]; omega
      have hnl : numTo x3.toNat x2.toNat x1.toNat x0.toNat 3 < 4294967296 := by rw [num3]; omega
      have kx : wr.drew.cell? ⟨b, off + 1, none⟩ = some (B8 x1) := (hbl.cell (p := ⟨b, off + 1, none⟩) hb).trans h1
      have HS := Lib.hid (hR.store (numTo x3.toNat x2.toNat x1.toNat x0.toNat 3)).drew
      have hf1 := hR.f1
      have hzf := hR.zf
      have HK : Hid ((wr.setCell ⟨w.heap.size + 1, 1, none⟩ (.int .u32 (numTo x3.toNat x2.toNat x1.toNat x0.toNat 3 : Nat))).drew.cell? ⟨b, off + 1, none⟩ = some (B8 x1)) := Lib.hid ((World.cell?_setCell_other _ _ _ _ (by simp <;> omega)).trans kx)
      have HX := Lib.hid hnx
      generalize numTo x3.toNat x2.toNat x1.toNat x0.toNat 2 = N at *
      generalize hN1 : numTo x3.toNat x2.toNat x1.toNat x0.toNat 3 = N1 at *
      have HN1 := Lib.hid hN1
      clear hN1
      have HW8 : Hid (IntKind.u32.wrap (IntKind.u32.wrap (256 * (N : Int)) + IntKind.u32.wrap (x1.toNat : Int)) = (N1 : Int)) := by
        apply Lib.hid
        rw [IntKind.wrap_u32, IntKind.wrap_u32, IntKind.wrap_u32]; omega
      have HR := Lib.hid hR
      clear hR hnx
      have e3 : (3 : Int) - ((2 : Nat) : Int) = 1 := by omega
      rw [e3]
      go_wp2_with fail
      refine wp_region_held_drew (S := fun w' => w'.cell? ⟨b, off + 1, none⟩ = some (B8 x1)) (by kernel_rfl) kx (fun hS => ?_)
      refine wpAnyH_take (i := 0) (oi := { dst := some 57, op := Op.fieldAddr 48 (Operand.tmp 6) 1, type := 0, pos := "ref.go:121", after := #[], guard := none }) (v := ?vc29) rfl (by kernel_rfl) (by kernel_rfl) (by kernel_rfl) (fun _ _ _ h => h) (Or.inl ⟨by rfl, ?yc29⟩) hS ?_
      case yc29 =>
        intro w hSw
        go_simp; all_goals (with_reducible rfl)
      simp only [Act.put, List.setIfInBounds_toArray, List.set_cons_zero, List.set_cons_succ]
      refine wpAnyH_take (i := 3) (oi := { dst := some 60, op := Op.move (Operand.tmp 1), type := 26, pos := "ref.go:121", after := #[], guard := none }) (v := ?vc30) rfl (by kernel_rfl) (by kernel_rfl) (by kernel_rfl) (fun _ _ _ h => h) (Or.inl ⟨by rfl, ?yc30⟩) hS ?_
      case yc30 =>
        intro w hSw
        go_simp; all_goals (with_reducible rfl)
      simp only [Act.put, List.setIfInBounds_toArray, List.set_cons_zero, List.set_cons_succ]
      refine wpAnyH_take (i := 4) (oi := { dst := some 61, op := Op.move (Operand.tmp 7), type := 3, pos := "ref.go:121", after := #[], guard := none }) (v := ?vc31) rfl (by kernel_rfl) (by kernel_rfl) (by kernel_rfl) (fun _ _ _ h => h) (Or.inl ⟨by rfl, ?yc31⟩) hS ?_
      case yc31 =>
        intro w hSw
        go_simp; all_goals (with_reducible rfl)
      simp only [Act.put, List.setIfInBounds_toArray, List.set_cons_zero, List.set_cons_succ]
      refine wpAnyH_take (i := 5) (oi := { dst := some 62, op := Op.indexAddr 26 (Operand.tmp 60) (Operand.tmp 61), type := 0, pos := "ref.go:121", after := #[{ on := 3, ground := Ground.data }, { on := 4, ground := Ground.data }], guard := none }) (v := ?vc32) rfl (by kernel_rfl) (by kernel_rfl) (by kernel_rfl) (fun _ _ _ h => h) (Or.inl ⟨by rfl, ?yc32⟩) hS ?_
      case yc32 =>
        intro w hSw
        go_simp; all_goals (with_reducible rfl)
      simp only [Act.put, List.setIfInBounds_toArray, List.set_cons_zero, List.set_cons_succ]
      refine wpAnyH_take (i := 6) (oi := { dst := some 63, op := Op.load 5 (Operand.tmp 62), type := 5, pos := "ref.go:121", after := #[{ on := 5, ground := Ground.data }], guard := none }) (v := ?vc33) rfl (by kernel_rfl) (by kernel_rfl) (by kernel_rfl) (fun _ _ _ h => h) (Or.inl ⟨by rfl, ?yc33⟩) hS ?_
      case yc33 =>
        intro w hSw
        have j0 := hSw
        go_simp; all_goals (with_reducible rfl)
      simp only [Act.put, List.setIfInBounds_toArray, List.set_cons_zero, List.set_cons_succ]
      refine wpAnyH_take (i := 7) (oi := { dst := some 64, op := Op.convert 5 23 (Operand.tmp 63), type := 23, pos := "ref.go:121", after := #[{ on := 6, ground := Ground.data }], guard := none }) (v := ?vc34) rfl (by kernel_rfl) (by kernel_rfl) (by kernel_rfl) (fun _ _ _ h => h) (Or.inl ⟨by rfl, ?yc34⟩) hS ?_
      case yc34 =>
        intro w hSw
        go_simp; all_goals (with_reducible rfl)
      simp only [Act.put, List.setIfInBounds_toArray, List.set_cons_zero, List.set_cons_succ]
      refine wpAnyH_ready (rs := [1]) (by kernel_rfl) (by simp) ?_
      refine (AllReadyH.cons (o := { dst := some 58, op := Op.load 23 (Operand.tmp 57), type := 23, pos := "ref.go:121", after := #[{ on := 0, ground := Ground.data }], guard := none }) rfl (fun K hK => ?_) AllReadyH.nil)
      go_simp
      refine hK.out _ _ hS (fun _ => ?_)
      clear hK K
      refine wpAnyH_take (i := 2) (oi := { dst := some 59, op := Op.binOp BinOp.mul 23 (Operand.const (Value.int IntKind.u32 256)) (Operand.tmp 58) 23, type := 23, pos := "ref.go:121", after := #[{ on := 1, ground := Ground.data }], guard := none }) (v := ?vc35) rfl (by kernel_rfl) (by kernel_rfl) (by kernel_rfl) (fun _ _ _ h => h) (Or.inl ⟨by rfl, ?yc35⟩) hS ?_
      case yc35 =>
        intro w hSw
        go_simp; all_goals (with_reducible rfl)
      simp only [Act.put, List.setIfInBounds_toArray, List.set_cons_zero, List.set_cons_succ]
      refine wpAnyH_take (i := 8) (oi := { dst := some 65, op := Op.binOp BinOp.add 23 (Operand.tmp 59) (Operand.tmp 64) 23, type := 23, pos := "ref.go:121", after := #[{ on := 2, ground := Ground.data }, { on := 7, ground := Ground.data }], guard := none }) (v := ?vc36) rfl (by kernel_rfl) (by kernel_rfl) (by kernel_rfl) (fun _ _ _ h => h) (Or.inl ⟨by rfl, ?yc36⟩) hS ?_
      case yc36 =>
        intro w hSw
        go_simp; all_goals (with_reducible rfl)
      simp only [Act.put, List.setIfInBounds_toArray, List.set_cons_zero, List.set_cons_succ]
      rw [HW8.out]
      refine wpAnyH_take (i := 9) (oi := { dst := some 66, op := Op.fieldAddr 48 (Operand.tmp 6) 1, type := 0, pos := "ref.go:121", after := #[{ on := 0, ground := Ground.phase }, { on := 1, ground := Ground.phase }, { on := 2, ground := Ground.phase }, { on := 3, ground := Ground.phase }, { on := 4, ground := Ground.phase }, { on := 5, ground := Ground.phase }, { on := 6, ground := Ground.phase }, { on := 7, ground := Ground.phase }, { on := 8, ground := Ground.phase }], guard := none }) (v := ?vc37) rfl (by kernel_rfl) (by kernel_rfl) (by kernel_rfl) (fun _ _ _ h => h) (Or.inl ⟨by rfl, ?yc37⟩) hS ?_
      case yc37 =>
        intro w hSw
        go_simp; all_goals (with_reducible rfl)
      simp only [Act.put, List.setIfInBounds_toArray, List.set_cons_zero, List.set_cons_succ]
      refine wpAnyH_ready (rs := [10]) (by kernel_rfl) (by simp) ?_
      refine (AllReadyH.cons (o := { dst := none, op := Op.store 23 (Operand.tmp 66) (Operand.tmp 65), type := 0, pos := "ref.go:121", after := #[{ on := 9, ground := Ground.data }, { on := 8, ground := Ground.data }, { on := 0, ground := Ground.phase }, { on := 1, ground := Ground.phase }, { on := 2, ground := Ground.phase }, { on := 3, ground := Ground.phase }, { on := 4, ground := Ground.phase }, { on := 5, ground := Ground.phase }, { on := 6, ground := Ground.phase }, { on := 7, ground := Ground.phase }, { on := 8, ground := Ground.phase }], guard := none }) rfl (fun K hK => ?_) AllReadyH.nil)
      go_simp
      refine hK.out _ _ HK.out (fun _ => ?_)
      clear hK K
      refine wpAnyH_done (by kernel_rfl) ?_ _
      go_wp2_with fail
      go_roundw
      case rel => exact ⟨3, by omega, rfl, by rw [HN1.out]; exact HS.out⟩
      case measure => simp [intOf]
    · have hrn : numTo x3.toNat x2.toNat x1.toNat x0.toNat 3 < 16777216 := by rw [num3]; omega
      have hnx : ((numTo x3.toNat x2.toNat x1.toNat x0.toNat 4 : Nat) : Int) = 256 * ((numTo x3.toNat x2.toNat x1.toNat x0.toNat 3 : Nat) : Int) + (x0.toNat : Int) := by rw [num3, num4]; omega
      have hnl : numTo x3.toNat x2.toNat x1.toNat x0.toNat 4 < 4294967296 := by rw [num4]; omega
      have kx : wr.drew.cell? ⟨b, off, none⟩ = some (B8 x0) := (hbl.cell (p := ⟨b, off, none⟩) hb).trans h0
      have HS := Lib.hid (hR.store (numTo x3.toNat x2.toNat x1.toNat x0.toNat 4)).drew
      have hf1 := hR.f1
      have hzf := hR.zf
      have HK : Hid ((wr.setCell ⟨w.heap.size + 1, 1, none⟩ (.int .u32 (numTo x3.toNat x2.toNat x1.toNat x0.toNat 4 : Nat))).drew.cell? ⟨b, off, none⟩ = some (B8 x0)) := Lib.hid ((World.cell?_setCell_other _ _ _ _ (by simp <;> omega)).trans kx)
      have HX := Lib.hid hnx
      generalize numTo x3.toNat x2.toNat x1.toNat x0.toNat 3 = N at *
      generalize hN1 : numTo x3.toNat x2.toNat x1.toNat x0.toNat 4 = N1 at *
      have HN1 := Lib.hid hN1
      clear hN1
      have HW8 : Hid (IntKind.u32.wrap (IntKind.u32.wrap (256 * (N : Int)) + IntKind.u32.wrap (x0.toNat : Int)) = (N1 : Int)) := by
        apply Lib.hid
        rw [IntKind.wrap_u32, IntKind.wrap_u32, IntKind.wrap_u32]; omega
      have HR := Lib.hid hR
      clear hR hnx
      have e3 : (3 : Int) - ((3 : Nat) : Int) = 0 := by omega
      rw [e3]
      go_wp2_with fail
      refine wp_region_held_drew (S := fun w' => w'.cell? ⟨b, off, none⟩ = some (B8 x0)) (by kernel_rfl) kx (fun hS => ?_)
      refine wpAnyH_take (i := 0) (oi := { dst := some 57, op := Op.fieldAddr 48 (Operand.tmp 6) 1, type := 0, pos := "ref.go:121", after := #[], guard := none }) (v := ?vd38) rfl (by kernel_rfl) (by kernel_rfl) (by kernel_rfl) (fun _ _ _ h => h) (Or.inl ⟨by rfl, ?yd38⟩) hS ?_
      case yd38 =>
        intro w hSw
        go_simp; all_goals (with_reducible rfl)
      simp only [Act.put, List.setIfInBounds_toArray, List.set_cons_zero, List.set_cons_succ]
      refine wpAnyH_take (i := 3) (oi := { dst := some 60, op := Op.move (Operand.tmp 1), type := 26, pos := "ref.go:121", after := #[], guard := none }) (v := ?vd39) rfl (by kernel_rfl) (by kernel_rfl) (by kernel_rfl) (fun _ _ _ h => h) (Or.inl ⟨by rfl, ?yd39⟩) hS ?_
      case yd39 =>
        intro w hSw
        go_simp; all_goals (with_reducible rfl)
      simp only [Act.put, List.setIfInBounds_toArray, List.set_cons_zero, List.set_cons_succ]
      refine wpAnyH_take (i := 4) (oi := { dst := some 61, op := Op.move (Operand.tmp 7), type := 3, pos := "ref.go:121", after := #[], guard := none }) (v := ?vd40) rfl (by kernel_rfl) (by kernel_rfl) (by kernel_rfl) (fun _ _ _ h => h) (Or.inl ⟨by rfl, ?yd40⟩) hS ?_
      case yd40 =>
        intro w hSw
        go_simp; all_goals (with_reducible rfl)
      simp only [Act.put, List.setIfInBounds_toArray, List.set_cons_zero, List.set_cons_succ]
      refine wpAnyH_take (i := 5) (oi := { dst := some 62, op := Op.indexAddr 26 (Operand.tmp 60) (Operand.tmp 61), type := 0, pos := "ref.go:121", after := #[{ on := 3, ground := Ground.data }, { on := 4, ground := Ground.data }], guard := none }) (v := ?vd41) rfl (by kernel_rfl) (by kernel_rfl) (by kernel_rfl) (fun _ _ _ h => h) (Or.inl ⟨by rfl, ?yd41⟩) hS ?_
      case yd41 =>
        intro w hSw
        go_simp; all_goals (with_reducible rfl)
      simp only [Act.put, List.setIfInBounds_toArray, List.set_cons_zero, List.set_cons_succ]
      refine wpAnyH_take (i := 6) (oi := { dst := some 63, op := Op.load 5 (Operand.tmp 62), type := 5, pos := "ref.go:121", after := #[{ on := 5, ground := Ground.data }], guard := none }) (v := ?vd42) rfl (by kernel_rfl) (by kernel_rfl) (by kernel_rfl) (fun _ _ _ h => h) (Or.inl ⟨by rfl, ?yd42⟩) hS ?_
      case yd42 =>
        intro w hSw
        have j0 := hSw
        go_simp; all_goals (with_reducible rfl)
      simp only [Act.put, List.setIfInBounds_toArray, List.set_cons_zero, List.set_cons_succ]
      refine wpAnyH_take (i := 7) (oi := { dst := some 64, op := Op.convert 5 23 (Operand.tmp 63), type := 23, pos := "ref.go:121", after := #[{ on := 6, ground := Ground.data }], guard := none }) (v := ?vd43) rfl (by kernel_rfl) (by kernel_rfl) (by kernel_rfl) (fun _ _ _ h => h) (Or.inl ⟨by rfl, ?yd43⟩) hS ?_
      case yd43 =>
        intro w hSw
        go_simp; all_goals (with_reducible rfl)
      simp only [Act.put, List.setIfInBounds_toArray, List.set_cons_zero, List.set_cons_succ]
      refine wpAnyH_ready (rs := [1]) (by kernel_rfl) (by simp) ?_
      refine (AllReadyH.cons (o := { dst := some 58, op := Op.load 23 (Operand.tmp 57), type := 23, pos := "ref.go:121", after := #[{ on := 0, ground := Ground.data }], guard := none }) rfl (fun K hK => ?_) AllReadyH.nil)
      go_simp
      refine hK.out _ _ hS (fun _ => ?_)
      clear hK K
      refine wpAnyH_take (i := 2) (oi := { dst := some 59, op := Op.binOp BinOp.mul 23 (Operand.const (Value.int IntKind.u32 256)) (Operand.tmp 58) 23, type := 23, pos := "ref.go:121", after := #[{ on := 1, ground := Ground.data }], guard := none }) (v := ?vd44) rfl (by kernel_rfl) (by kernel_rfl) (by kernel_rfl) (fun _ _ _ h => h) (Or.inl ⟨by rfl, ?yd44⟩) hS ?_
      case yd44 =>
        intro w hSw
        go_simp; all_goals (with_reducible rfl)
      simp only [Act.put, List.setIfInBounds_toArray, List.set_cons_zero, List.set_cons_succ]
      refine wpAnyH_take (i := 8) (oi := { dst := some 65, op := Op.binOp BinOp.add 23 (Operand.tmp 59) (Operand.tmp 64) 23, type := 23, pos := "ref.go:121", after := #[{ on := 2, ground := Ground.data }, { on := 7, ground := Ground.data }], guard := none }) (v := ?vd45) rfl (by kernel_rfl) (by kernel_rfl) (by kernel_rfl) (fun _ _ _ h => h) (Or.inl ⟨by rfl, ?yd45⟩) hS ?_
      case yd45 =>
        intro w hSw
        go_simp; all_goals (with_reducible rfl)
      simp only [Act.put, List.setIfInBounds_toArray, List.set_cons_zero, List.set_cons_succ]
      rw [HW8.out]
      refine wpAnyH_take (i := 9) (oi := { dst := some 66, op := Op.fieldAddr 48 (Operand.tmp 6) 1, type := 0, pos := "ref.go:121", after := #[{ on := 0, ground := Ground.phase }, { on := 1, ground := Ground.phase }, { on := 2, ground := Ground.phase }, { on := 3, ground := Ground.phase }, { on := 4, ground := Ground.phase }, { on := 5, ground := Ground.phase }, { on := 6, ground := Ground.phase }, { on := 7, ground := Ground.phase }, { on := 8, ground := Ground.phase }], guard := none }) (v := ?vd46) rfl (by kernel_rfl) (by kernel_rfl) (by kernel_rfl) (fun _ _ _ h => h) (Or.inl ⟨by rfl, ?yd46⟩) hS ?_
      case yd46 =>
        intro w hSw
        go_simp; all_goals (with_reducible rfl)
      simp only [Act.put, List.setIfInBounds_toArray, List.set_cons_zero, List.set_cons_succ]
      refine wpAnyH_ready (rs := [10]) (by kernel_rfl) (by simp) ?_
      refine (AllReadyH.cons (o := { dst := none, op := Op.store 23 (Operand.tmp 66) (Operand.tmp 65), type := 0, pos := "ref.go:121", after := #[{ on := 9, ground := Ground.data }, { on := 8, ground := Ground.data }, { on := 0, ground := Ground.phase }, { on := 1, ground := Ground.phase }, { on := 2, ground := Ground.phase }, { on := 3, ground := Ground.phase }, { on := 4, ground := Ground.phase }, { on := 5, ground := Ground.phase }, { on := 6, ground := Ground.phase }, { on := 7, ground := Ground.phase }, { on := 8, ground := Ground.phase }], guard := none }) rfl (fun K hK => ?_) AllReadyH.nil)
      go_simp
      refine hK.out _ _ HK.out (fun _ => ?_)
      clear hK K
      refine wpAnyH_done (by kernel_rfl) ?_ _
      go_wp2_with fail
      go_roundw
      case rel => exact ⟨4, by omega, rfl, by rw [HN1.out]; exact HS.out⟩
      case measure => simp [intOf]
    · rw [← HW.out] at hR
      have e3 : (3 : Int) - ((4 : Nat) : Int) = -1 := rfl
      rw [e3]
      obtain ⟨q0, q1, q2, q3, q4, q5, q6, q7⟩ := hR
      clear e3 hk hbl hbr h0 h1 h2 h3' HW
      cases M with
      | true =>
        have r1 := World.cell?_setCell_same' wr ⟨w.heap.size, 0, none⟩ (.int .i64 id) (by rw [q0]; rfl)
        have r2 := World.cell?_setCell_same' (wr.setCell ⟨w.heap.size, 0, none⟩ (.int .i64 id)) ⟨w.heap.size, 1, none⟩ (.int .u32 (R : Nat)) (by rw [World.cell?_setCell_other _ _ _ _ (by simp), q1]; rfl)
        go_wp2_with fail
        refine (HM.out _).mono ?_
        rintro e w' ⟨rfl, rfl⟩
        go_wp2_with fail
        exact bodyPost_ret (v := .tuple #[.agg #[.int .i64 id, .int .u32 (R : Nat)], .bool true]) (by simp [results, Tryd.results65, go_sem, r1, r2]) rfl ⟨rfl, (q7.setCell (Nat.le_refl _) _).setCell (Nat.le_refl _) _⟩
      | false =>
        have r1 := World.cell?_setCell_same' wr ⟨w.heap.size, 0, none⟩ (.int .i64 0) (by rw [q0]; rfl)
        have r2 := World.cell?_setCell_same' (wr.setCell ⟨w.heap.size, 0, none⟩ (.int .i64 0)) ⟨w.heap.size, 1, none⟩ (.int .u32 0) (by rw [World.cell?_setCell_other _ _ _ _ (by simp), q1]; rfl)
        go_wp2_with fail
        refine (HM.out _).mono ?_
        rintro e w' ⟨rfl, rfl⟩
        go_wp2_with fail
        exact bodyPost_ret (v := .tuple #[.agg #[.int .i64 0, .int .u32 0], .bool false]) (by simp [results, Tryd.results65, go_sem, r1, r2]) rfl ⟨rfl, (q7.setCell (Nat.le_refl _) _).setCell (Nat.le_refl _) _⟩
end Go.Proofs.YtaggkcgeddoogaaDoor
