/- chain's Read of four bytes. -/
import Derived.Test.YtaggkcgeddoogaaDoorChRead
import Derived.RowKit3
namespace Go.Proofs.YtaggkcgeddoogaaDoor
open Go.RowKit

theorem two_boxes (w : World) (a0 a1 b0 b1 : Value) (T : TypeId) : ((w.alloc (.cells #[a0, a1] T)).alloc (.cells #[b0, b1] T)).drew.cell? ⟨w.heap.size, 0, none⟩ = some a0 ∧ ((w.alloc (.cells #[a0, a1] T)).alloc (.cells #[b0, b1] T)).drew.cell? ⟨w.heap.size, 1, none⟩ = some a1 ∧
    ((w.alloc (.cells #[a0, a1] T)).alloc (.cells #[b0, b1] T)).drew.cell? ⟨w.heap.size + 1, 0, none⟩ = some b0 ∧ ((w.alloc (.cells #[a0, a1] T)).alloc (.cells #[b0, b1] T)).drew.cell? ⟨w.heap.size + 1, 1, none⟩ = some b1 ∧
    ((w.alloc (.cells #[a0, a1] T)).alloc (.cells #[b0, b1] T)).drew.frozen? ⟨w.heap.size, 0, none⟩ = false ∧ ((w.alloc (.cells #[a0, a1] T)).alloc (.cells #[b0, b1] T)).drew.frozen? ⟨w.heap.size, 1, none⟩ = false ∧
    Below w.heap.size w ((w.alloc (.cells #[a0, a1] T)).alloc (.cells #[b0, b1] T)).drew := by
  have e : (w.alloc (.cells #[a0, a1] T)).heap.size = w.heap.size + 1 := by simp
  have hb := below_box (w.alloc (.cells #[a0, a1] T)) (.cells #[b0, b1] T)
  refine ⟨(hb.cell (p := ⟨w.heap.size, 0, none⟩) (by simp)).trans ?_, (hb.cell (p := ⟨w.heap.size, 1, none⟩) (by simp)).trans ?_, ?_, ?_, (hb.frozen (p := ⟨w.heap.size, 0, none⟩) (by simp)).trans ?_, (hb.frozen (p := ⟨w.heap.size, 1, none⟩) (by simp)).trans ?_, ((below_box w _).trans (hb.mono (by simp))).drew⟩
  · rw [cell_of_row _ _ _ _ _ _ (heap_alloc_last _ _)]; rfl
  · rw [cell_of_row _ _ _ _ _ _ (heap_alloc_last _ _)]; rfl
  · rw [← e]; show ((w.alloc _).alloc _).cell? _ = _; rw [cell_of_row _ _ _ _ _ _ (heap_alloc_last _ _)]; rfl
  · rw [← e]; show ((w.alloc _).alloc _).cell? _ = _; rw [cell_of_row _ _ _ _ _ _ (heap_alloc_last _ _)]; rfl
  · rw [frozen?_alloc_cells]; simp [World.frozen?]
  · rw [frozen?_alloc_cells]; simp [World.frozen?]
theorem cell_two (w : World) (o p : Obj) (b k : Nat) (hb : b < w.heap.size) : ((w.alloc o).alloc p).drew.cell? ⟨b, k, none⟩ = w.cell? ⟨b, k, none⟩ :=
  (((below_box w o).alloc (below_box w o).size p).drew).cell (p := ⟨b, k, none⟩) hb
set_option maxRecDepth 100000 in
set_option maxHeartbeats 1000000 in
theorem cread_4 (id : Int) (h33 : id ≠ 33) (h3 : id ≠ 3) (hi : isIdB id = true) (b off c : Nat) (x0 x1 x2 x3 : UInt8) (h : x0.toNat % 4 = 0) (w : World) (hb : b < w.heap.size) (h0 : w.cell? ⟨b, off, none⟩ = some (B8 x0)) (h1 : w.cell? ⟨b, off + 1, none⟩ = some (B8 x1)) (h2 : w.cell? ⟨b, off + 2, none⟩ = some (B8 x2)) (h3' : w.cell? ⟨b, off + 3, none⟩ = some (B8 x3)) :
    Calls Tryd.prog 58 #[.int .i64 id, .slice (some ⟨b, off, none⟩) 4 c] w (FilT w id (word true x0 x1 x2 x3) (.int .i64 0)) := by
  have HI := Lib.hid (isBranch_any id)
  rw [hi] at HI
  have HW := Lib.hid (word_of _ _ _ _ x0.toNat_lt x1.toNat_lt x2.toNat_lt x3.toNat_lt)
  have hwd : word true x0 x1 x2 x3 = x0.toNat + x1.toNat * 256 + x2.toNat * 65536 + x3.toNat * 16777216 := rfl
  rw [← hwd] at HW
  generalize word true x0 x1 x2 x3 = R at *
  have d33 : (id == 33) = false := by simp [h33]
  have d3 : (id == 3) = false := by simp [h3]
  have e4 : ((x0.toNat : Int) % 4 == 0) = true := by simp; omega
  have hbn : b ≠ w.heap.size := by omega
  have hbn1 : b ≠ w.heap.size + 1 := by omega
  clear h33 h3 hi h hwd
  go_enter Tryd.func58, Tryd.ntmps58
  go_wp2_with fail
  refine (HI.out _).mono ?_
  rintro e w' ⟨rfl, rfl⟩
  go_wp2_with fail
  refine (HI.out _).mono ?_
  rintro e w' ⟨rfl, rfl⟩
  go_wp2_with fail
  have k0 := fun o p => (cell_two w o p b off hb).trans h0
  have k1 := fun o p => (cell_two w o p b (off + 1) hb).trans h1
  have k2 := fun o p => (cell_two w o p b (off + 2) hb).trans h2
  have k3 := fun o p => (cell_two w o p b (off + 3) hb).trans h3'
  refine wp_region_held_drew (S := fun w' => w'.cell? ⟨b, off, none⟩ = some (B8 x0) ∧ w'.cell? ⟨b, off + 1, none⟩ = some (B8 x1) ∧ w'.cell? ⟨b, off + 2, none⟩ = some (B8 x2) ∧ w'.cell? ⟨b, off + 3, none⟩ = some (B8 x3)) (by kernel_rfl) ⟨k0 _ _, k1 _ _, k2 _ _, k3 _ _⟩ (fun hS => ?_)
  refine wpAnyH_take (i := 0) (oi := { dst := some 67, op := Op.move (Operand.tmp 1), type := 26, pos := "chain.go:86", after := #[], guard := none }) (v := ?va1) rfl (by kernel_rfl) (by kernel_rfl) (by kernel_rfl) (fun _ _ _ h => h) (Or.inl ⟨by rfl, ?ya1⟩) hS ?_
  case ya1 =>
    intro w hSw
    go_simp; all_goals (with_reducible rfl)
  simp only [Act.put, List.setIfInBounds_toArray, List.set_cons_zero, List.set_cons_succ]
  refine wpAnyH_take (i := 1) (oi := { dst := some 68, op := Op.indexAddr 26 (Operand.tmp 67) (Operand.const (Value.int IntKind.i64 0)), type := 0, pos := "chain.go:86", after := #[{ on := 0, ground := Ground.data }], guard := none }) (v := ?va2) rfl (by kernel_rfl) (by kernel_rfl) (by kernel_rfl) (fun _ _ _ h => h) (Or.inl ⟨by rfl, ?ya2⟩) hS ?_
  case ya2 =>
    intro w hSw
    go_simp; all_goals (with_reducible rfl)
  simp only [Act.put, List.setIfInBounds_toArray, List.set_cons_zero, List.set_cons_succ]
  refine wpAnyH_take (i := 2) (oi := { dst := some 69, op := Op.load 5 (Operand.tmp 68), type := 5, pos := "chain.go:86", after := #[{ on := 1, ground := Ground.data }], guard := none }) (v := ?va3) rfl (by kernel_rfl) (by kernel_rfl) (by kernel_rfl) (fun _ _ _ h => h) (Or.inl ⟨by rfl, ?ya3⟩) hS ?_
  case ya3 =>
    intro w hSw
    obtain ⟨j0, j1, j2, j3⟩ := hSw
    go_simp; all_goals (with_reducible rfl)
  simp only [Act.put, List.setIfInBounds_toArray, List.set_cons_zero, List.set_cons_succ]
  refine wpAnyH_take (i := 3) (oi := { dst := some 70, op := Op.convert 5 23 (Operand.tmp 69), type := 23, pos := "chain.go:86", after := #[{ on := 2, ground := Ground.data }], guard := none }) (v := ?va4) rfl (by kernel_rfl) (by kernel_rfl) (by kernel_rfl) (fun _ _ _ h => h) (Or.inl ⟨by rfl, ?ya4⟩) hS ?_
  case ya4 =>
    intro w hSw
    go_simp; all_goals (with_reducible rfl)
  simp only [Act.put, List.setIfInBounds_toArray, List.set_cons_zero, List.set_cons_succ]
  refine wpAnyH_take (i := 4) (oi := { dst := some 71, op := Op.move (Operand.tmp 1), type := 26, pos := "chain.go:86", after := #[], guard := none }) (v := ?va5) rfl (by kernel_rfl) (by kernel_rfl) (by kernel_rfl) (fun _ _ _ h => h) (Or.inl ⟨by rfl, ?ya5⟩) hS ?_
  case ya5 =>
    intro w hSw
    go_simp; all_goals (with_reducible rfl)
  simp only [Act.put, List.setIfInBounds_toArray, List.set_cons_zero, List.set_cons_succ]
  refine wpAnyH_take (i := 5) (oi := { dst := some 72, op := Op.indexAddr 26 (Operand.tmp 71) (Operand.const (Value.int IntKind.i64 1)), type := 0, pos := "chain.go:86", after := #[{ on := 4, ground := Ground.data }], guard := none }) (v := ?va6) rfl (by kernel_rfl) (by kernel_rfl) (by kernel_rfl) (fun _ _ _ h => h) (Or.inl ⟨by rfl, ?ya6⟩) hS ?_
  case ya6 =>
    intro w hSw
    go_simp; all_goals (with_reducible rfl)
  simp only [Act.put, List.setIfInBounds_toArray, List.set_cons_zero, List.set_cons_succ]
  refine wpAnyH_take (i := 6) (oi := { dst := some 73, op := Op.load 5 (Operand.tmp 72), type := 5, pos := "chain.go:86", after := #[{ on := 5, ground := Ground.data }], guard := none }) (v := ?va7) rfl (by kernel_rfl) (by kernel_rfl) (by kernel_rfl) (fun _ _ _ h => h) (Or.inl ⟨by rfl, ?ya7⟩) hS ?_
  case ya7 =>
    intro w hSw
    obtain ⟨j0, j1, j2, j3⟩ := hSw
    go_simp; all_goals (with_reducible rfl)
  simp only [Act.put, List.setIfInBounds_toArray, List.set_cons_zero, List.set_cons_succ]
  refine wpAnyH_take (i := 7) (oi := { dst := some 74, op := Op.convert 5 23 (Operand.tmp 73), type := 23, pos := "chain.go:86", after := #[{ on := 6, ground := Ground.data }], guard := none }) (v := ?va8) rfl (by kernel_rfl) (by kernel_rfl) (by kernel_rfl) (fun _ _ _ h => h) (Or.inl ⟨by rfl, ?ya8⟩) hS ?_
  case ya8 =>
    intro w hSw
    go_simp; all_goals (with_reducible rfl)
  simp only [Act.put, List.setIfInBounds_toArray, List.set_cons_zero, List.set_cons_succ]
  refine wpAnyH_take (i := 8) (oi := { dst := some 75, op := Op.binOp BinOp.shl 23 (Operand.tmp 74) (Operand.const (Value.int IntKind.u64 8)) 73, type := 23, pos := "chain.go:86", after := #[{ on := 7, ground := Ground.data }], guard := none }) (v := ?va9) rfl (by kernel_rfl) (by kernel_rfl) (by kernel_rfl) (fun _ _ _ h => h) (Or.inl ⟨by rfl, ?ya9⟩) hS ?_
  case ya9 =>
    intro w hSw
    go_simp; all_goals (with_reducible rfl)
  simp only [Act.put, List.setIfInBounds_toArray, List.set_cons_zero, List.set_cons_succ]
  refine wpAnyH_take (i := 9) (oi := { dst := some 76, op := Op.binOp BinOp.or 23 (Operand.tmp 70) (Operand.tmp 75) 23, type := 23, pos := "chain.go:86", after := #[{ on := 3, ground := Ground.data }, { on := 8, ground := Ground.data }], guard := none }) (v := ?va10) rfl (by kernel_rfl) (by kernel_rfl) (by kernel_rfl) (fun _ _ _ h => h) (Or.inl ⟨by rfl, ?ya10⟩) hS ?_
  case ya10 =>
    intro w hSw
    go_simp; all_goals (with_reducible rfl)
  simp only [Act.put, List.setIfInBounds_toArray, List.set_cons_zero, List.set_cons_succ]
  refine wpAnyH_take (i := 10) (oi := { dst := some 77, op := Op.move (Operand.tmp 1), type := 26, pos := "chain.go:86", after := #[], guard := none }) (v := ?va11) rfl (by kernel_rfl) (by kernel_rfl) (by kernel_rfl) (fun _ _ _ h => h) (Or.inl ⟨by rfl, ?ya11⟩) hS ?_
  case ya11 =>
    intro w hSw
    go_simp; all_goals (with_reducible rfl)
  simp only [Act.put, List.setIfInBounds_toArray, List.set_cons_zero, List.set_cons_succ]
  refine wpAnyH_take (i := 11) (oi := { dst := some 78, op := Op.indexAddr 26 (Operand.tmp 77) (Operand.const (Value.int IntKind.i64 2)), type := 0, pos := "chain.go:86", after := #[{ on := 10, ground := Ground.data }], guard := none }) (v := ?va12) rfl (by kernel_rfl) (by kernel_rfl) (by kernel_rfl) (fun _ _ _ h => h) (Or.inl ⟨by rfl, ?ya12⟩) hS ?_
  case ya12 =>
    intro w hSw
    go_simp; all_goals (with_reducible rfl)
  simp only [Act.put, List.setIfInBounds_toArray, List.set_cons_zero, List.set_cons_succ]
  refine wpAnyH_take (i := 12) (oi := { dst := some 79, op := Op.load 5 (Operand.tmp 78), type := 5, pos := "chain.go:86", after := #[{ on := 11, ground := Ground.data }], guard := none }) (v := ?va13) rfl (by kernel_rfl) (by kernel_rfl) (by kernel_rfl) (fun _ _ _ h => h) (Or.inl ⟨by rfl, ?ya13⟩) hS ?_
  case ya13 =>
    intro w hSw
    obtain ⟨j0, j1, j2, j3⟩ := hSw
    go_simp; all_goals (with_reducible rfl)
  simp only [Act.put, List.setIfInBounds_toArray, List.set_cons_zero, List.set_cons_succ]
  refine wpAnyH_take (i := 13) (oi := { dst := some 80, op := Op.convert 5 23 (Operand.tmp 79), type := 23, pos := "chain.go:86", after := #[{ on := 12, ground := Ground.data }], guard := none }) (v := ?va14) rfl (by kernel_rfl) (by kernel_rfl) (by kernel_rfl) (fun _ _ _ h => h) (Or.inl ⟨by rfl, ?ya14⟩) hS ?_
  case ya14 =>
    intro w hSw
    go_simp; all_goals (with_reducible rfl)
  simp only [Act.put, List.setIfInBounds_toArray, List.set_cons_zero, List.set_cons_succ]
  refine wpAnyH_take (i := 14) (oi := { dst := some 81, op := Op.binOp BinOp.shl 23 (Operand.tmp 80) (Operand.const (Value.int IntKind.u64 16)) 73, type := 23, pos := "chain.go:86", after := #[{ on := 13, ground := Ground.data }], guard := none }) (v := ?va15) rfl (by kernel_rfl) (by kernel_rfl) (by kernel_rfl) (fun _ _ _ h => h) (Or.inl ⟨by rfl, ?ya15⟩) hS ?_
  case ya15 =>
    intro w hSw
    go_simp; all_goals (with_reducible rfl)
  simp only [Act.put, List.setIfInBounds_toArray, List.set_cons_zero, List.set_cons_succ]
  refine wpAnyH_take (i := 15) (oi := { dst := some 82, op := Op.binOp BinOp.or 23 (Operand.tmp 76) (Operand.tmp 81) 23, type := 23, pos := "chain.go:86", after := #[{ on := 9, ground := Ground.data }, { on := 14, ground := Ground.data }], guard := none }) (v := ?va16) rfl (by kernel_rfl) (by kernel_rfl) (by kernel_rfl) (fun _ _ _ h => h) (Or.inl ⟨by rfl, ?ya16⟩) hS ?_
  case ya16 =>
    intro w hSw
    go_simp; all_goals (with_reducible rfl)
  simp only [Act.put, List.setIfInBounds_toArray, List.set_cons_zero, List.set_cons_succ]
  refine wpAnyH_take (i := 16) (oi := { dst := some 83, op := Op.move (Operand.tmp 1), type := 26, pos := "chain.go:86", after := #[], guard := none }) (v := ?va17) rfl (by kernel_rfl) (by kernel_rfl) (by kernel_rfl) (fun _ _ _ h => h) (Or.inl ⟨by rfl, ?ya17⟩) hS ?_
  case ya17 =>
    intro w hSw
    go_simp; all_goals (with_reducible rfl)
  simp only [Act.put, List.setIfInBounds_toArray, List.set_cons_zero, List.set_cons_succ]
  refine wpAnyH_take (i := 17) (oi := { dst := some 84, op := Op.indexAddr 26 (Operand.tmp 83) (Operand.const (Value.int IntKind.i64 3)), type := 0, pos := "chain.go:86", after := #[{ on := 16, ground := Ground.data }], guard := none }) (v := ?va18) rfl (by kernel_rfl) (by kernel_rfl) (by kernel_rfl) (fun _ _ _ h => h) (Or.inl ⟨by rfl, ?ya18⟩) hS ?_
  case ya18 =>
    intro w hSw
    go_simp; all_goals (with_reducible rfl)
  simp only [Act.put, List.setIfInBounds_toArray, List.set_cons_zero, List.set_cons_succ]
  refine wpAnyH_take (i := 18) (oi := { dst := some 85, op := Op.load 5 (Operand.tmp 84), type := 5, pos := "chain.go:86", after := #[{ on := 17, ground := Ground.data }], guard := none }) (v := ?va19) rfl (by kernel_rfl) (by kernel_rfl) (by kernel_rfl) (fun _ _ _ h => h) (Or.inl ⟨by rfl, ?ya19⟩) hS ?_
  case ya19 =>
    intro w hSw
    obtain ⟨j0, j1, j2, j3⟩ := hSw
    go_simp; all_goals (with_reducible rfl)
  simp only [Act.put, List.setIfInBounds_toArray, List.set_cons_zero, List.set_cons_succ]
  refine wpAnyH_take (i := 19) (oi := { dst := some 86, op := Op.convert 5 23 (Operand.tmp 85), type := 23, pos := "chain.go:86", after := #[{ on := 18, ground := Ground.data }], guard := none }) (v := ?va20) rfl (by kernel_rfl) (by kernel_rfl) (by kernel_rfl) (fun _ _ _ h => h) (Or.inl ⟨by rfl, ?ya20⟩) hS ?_
  case ya20 =>
    intro w hSw
    go_simp; all_goals (with_reducible rfl)
  simp only [Act.put, List.setIfInBounds_toArray, List.set_cons_zero, List.set_cons_succ]
  refine wpAnyH_take (i := 20) (oi := { dst := some 87, op := Op.binOp BinOp.shl 23 (Operand.tmp 86) (Operand.const (Value.int IntKind.u64 24)) 73, type := 23, pos := "chain.go:86", after := #[{ on := 19, ground := Ground.data }], guard := none }) (v := ?va21) rfl (by kernel_rfl) (by kernel_rfl) (by kernel_rfl) (fun _ _ _ h => h) (Or.inl ⟨by rfl, ?ya21⟩) hS ?_
  case ya21 =>
    intro w hSw
    go_simp; all_goals (with_reducible rfl)
  simp only [Act.put, List.setIfInBounds_toArray, List.set_cons_zero, List.set_cons_succ]
  refine wpAnyH_take (i := 21) (oi := { dst := some 88, op := Op.binOp BinOp.or 23 (Operand.tmp 82) (Operand.tmp 87) 23, type := 23, pos := "chain.go:86", after := #[{ on := 15, ground := Ground.data }, { on := 20, ground := Ground.data }], guard := none }) (v := ?va22) rfl (by kernel_rfl) (by kernel_rfl) (by kernel_rfl) (fun _ _ _ h => h) (Or.inl ⟨by rfl, ?ya22⟩) hS ?_
  case ya22 =>
    intro w hSw
    go_simp; all_goals (with_reducible rfl)
  simp only [Act.put, List.setIfInBounds_toArray, List.set_cons_zero, List.set_cons_succ]
  refine wpAnyH_take (i := 22) (oi := { dst := some 89, op := Op.fieldAddr 48 (Operand.tmp 6) 1, type := 0, pos := "chain.go:86", after := #[{ on := 0, ground := Ground.phase }, { on := 1, ground := Ground.phase }, { on := 2, ground := Ground.phase }, { on := 3, ground := Ground.phase }, { on := 4, ground := Ground.phase }, { on := 5, ground := Ground.phase }, { on := 6, ground := Ground.phase }, { on := 7, ground := Ground.phase }, { on := 8, ground := Ground.phase }, { on := 9, ground := Ground.phase }, { on := 10, ground := Ground.phase }, { on := 11, ground := Ground.phase }, { on := 12, ground := Ground.phase }, { on := 13, ground := Ground.phase }, { on := 14, ground := Ground.phase }, { on := 15, ground := Ground.phase }, { on := 16, ground := Ground.phase }, { on := 17, ground := Ground.phase }, { on := 18, ground := Ground.phase }, { on := 19, ground := Ground.phase }, { on := 20, ground := Ground.phase }, { on := 21, ground := Ground.phase }], guard := none }) (v := ?va23) rfl (by kernel_rfl) (by kernel_rfl) (by kernel_rfl) (fun _ _ _ h => h) (Or.inl ⟨by rfl, ?ya23⟩) hS ?_
  case ya23 =>
    intro w hSw
    go_simp; all_goals (with_reducible rfl)
  simp only [Act.put, List.setIfInBounds_toArray, List.set_cons_zero, List.set_cons_succ]
  rw [HW.out]
  refine wpAnyH_ready (rs := [23]) (by kernel_rfl) (by simp) ?_
  refine (AllReadyH.cons (o := { dst := none, op := Op.store 23 (Operand.tmp 89) (Operand.tmp 88), type := 0, pos := "chain.go:86", after := #[{ on := 22, ground := Ground.data }, { on := 21, ground := Ground.data }, { on := 0, ground := Ground.phase }, { on := 1, ground := Ground.phase }, { on := 2, ground := Ground.phase }, { on := 3, ground := Ground.phase }, { on := 4, ground := Ground.phase }, { on := 5, ground := Ground.phase }, { on := 6, ground := Ground.phase }, { on := 7, ground := Ground.phase }, { on := 8, ground := Ground.phase }, { on := 9, ground := Ground.phase }, { on := 10, ground := Ground.phase }, { on := 11, ground := Ground.phase }, { on := 12, ground := Ground.phase }, { on := 13, ground := Ground.phase }, { on := 14, ground := Ground.phase }, { on := 15, ground := Ground.phase }, { on := 16, ground := Ground.phase }, { on := 17, ground := Ground.phase }, { on := 18, ground := Ground.phase }, { on := 19, ground := Ground.phase }, { on := 20, ground := Ground.phase }, { on := 21, ground := Ground.phase }], guard := none }) rfl (fun K hK => ?_) AllReadyH.nil)
  go_simp
  refine hK.out _ _ ⟨k0 _ _, k1 _ _, k2 _ _, k3 _ _⟩ (fun _ => ?_)
  clear hK K
  refine wpAnyH_done (by kernel_rfl) ?_ _
  clear k0 k1 k2 k3 h0 h1 h2 h3' HW
  have q := two_boxes w (.int .i64 0) (.int .u32 0) (.int .i64 id) (.int .u32 (R : Nat)) 48
  generalize ((w.alloc (.cells #[.int .i64 0, .int .u32 0] 48)).alloc (.cells #[.int .i64 id, .int .u32 (R : Nat)] 48)).drew = W at *
  obtain ⟨q1, q2, q3, q4, q5, q6, q7⟩ := q
  have r1 := World.cell?_setCell_same' W ⟨w.heap.size, 0, none⟩ (.int .i64 id) (by rw [q1]; rfl)
  have r2 := World.cell?_setCell_same' (W.setCell ⟨w.heap.size, 0, none⟩ (.int .i64 id)) ⟨w.heap.size, 1, none⟩ (.int .u32 (R : Nat)) (by rw [World.cell?_setCell_other _ _ _ _ (by simp), q2]; rfl)
  go_wp2_with fail
  exact bodyPost_ret (v := .tuple #[.agg #[.int .i64 id, .int .u32 (R : Nat)], .int .i64 0]) (by simp [results, Tryd.results58, go_sem, r1, r2]) rfl ⟨rfl, (q7.setCell (Nat.le_refl _) _).setCell (Nat.le_refl _) _⟩
end Go.Proofs.YtaggkcgeddoogaaDoor
