/- A filter of bytes, by the reference. -/
import Derived.Test.YtaggkcgeddoogaaDoorChRea4
import Derived.Test.YtaggkcgeddoogaaDoorChAll
namespace Go.Proofs.YtaggkcgeddoogaaDoor
open Go.RowKit

/-- What stands in the two boxes while four bytes are read. -/
structure RdAt (w wr : World) (id : Int) (n : Nat) : Prop where
  r0 : wr.cell? ⟨w.heap.size, 0, none⟩ = some (.int .i64 0)
  r1 : wr.cell? ⟨w.heap.size, 1, none⟩ = some (.int .u32 0)
  f0 : wr.cell? ⟨w.heap.size + 1, 0, none⟩ = some (.int .i64 id)
  f1 : wr.cell? ⟨w.heap.size + 1, 1, none⟩ = some (.int .u32 (n : Nat))
  z0 : wr.frozen? ⟨w.heap.size, 0, none⟩ = false
  z1 : wr.frozen? ⟨w.heap.size, 1, none⟩ = false
  zf : wr.frozen? ⟨w.heap.size + 1, 1, none⟩ = false
  below : Below w.heap.size w wr
theorem RdAt.store {w wr : World} {id : Int} {n : Nat} (h : RdAt w wr id n) (m : Nat) : RdAt w (wr.setCell ⟨w.heap.size + 1, 1, none⟩ (.int .u32 (m : Nat))) id m where
  r0 := (World.cell?_setCell_other _ _ _ _ (by simp)).trans h.r0
  r1 := (World.cell?_setCell_other _ _ _ _ (by simp)).trans h.r1
  f0 := (World.cell?_setCell_other _ _ _ _ (by simp)).trans h.f0
  f1 := World.cell?_setCell_same' _ _ _ (by rw [h.f1]; rfl)
  z0 := by rw [World.frozen?_setCell]; exact h.z0
  z1 := by rw [World.frozen?_setCell]; exact h.z1
  zf := by rw [World.frozen?_setCell]; exact h.zf
  below := h.below.setCell (by simp) _
theorem RdAt.drew {w wr : World} {id : Int} {n : Nat} (h : RdAt w wr id n) : RdAt w wr.drew id n := ⟨h.r0, h.r1, h.f0, h.f1, h.z0, h.z1, h.zf, h.below.drew⟩
theorem RdAt.start (w : World) (id : Int) : RdAt w ((w.alloc (.cells #[.int .i64 0, .int .u32 0] 48)).alloc (.cells #[.int .i64 id, .int .u32 0] 48)) id 0 := by
  obtain ⟨q1, q2, q3, q4, q5, q6, q7⟩ := two_boxes w (.int .i64 0) (.int .u32 0) (.int .i64 id) (.int .u32 0) 48
  refine ⟨q1, q2, q3, q4, q5, q6, ?_, (below_box w _).trans ((below_box _ _).mono (by simp))⟩
  rw [frozen?_alloc_cells, frozen?_alloc_cells]; simp [World.frozen?]

set_option maxRecDepth 100000 in
set_option maxHeartbeats 400000 in
theorem rread_33no (A : Option Addr) (n c : Nat) (h : n ≠ 1) (w : World) :
    Calls Tryd.prog 65 #[.int .i64 33, .slice A n c] w (FilT w 0 0 (.bool false)) := by
  have d1 : ((n : Int) != 1) = true := by simp; omega
  clear h
  go_enter Tryd.func65, Tryd.ntmps65
  go_wp2_with fail
  exact bodyPost_ret (v := .tuple #[.agg #[.int .i64 0, .int .u32 0], .bool false]) (by simp [results, Tryd.results65, go_sem]) rfl ⟨rfl, ((Below.refl _ _).alloc (Nat.le_refl _) _).alloc (by simp) _⟩
set_option maxRecDepth 100000 in
set_option maxHeartbeats 400000 in
theorem rread_3no (A : Option Addr) (n c : Nat) (h : n ≠ 1) (w : World) :
    Calls Tryd.prog 65 #[.int .i64 3, .slice A n c] w (FilT w 0 0 (.bool false)) := by
  have d1 : ((n : Int) != 1) = true := by simp; omega
  clear h
  go_enter Tryd.func65, Tryd.ntmps65
  go_wp2_with fail
  exact bodyPost_ret (v := .tuple #[.agg #[.int .i64 0, .int .u32 0], .bool false]) (by simp [results, Tryd.results65, go_sem]) rfl ⟨rfl, ((Below.refl _ _).alloc (Nat.le_refl _) _).alloc (by simp) _⟩
set_option maxRecDepth 100000 in
set_option maxHeartbeats 400000 in
theorem rread_33 (b off c : Nat) (x : UInt8) (D : Nat) (hDl : D < 4294967296) (hD : ∀ w, Calls Tryd.prog 38 #[.int .i64 (x.toNat : Nat)] w fun e w' => e = .returned (.int .u64 (D : Nat)) ∧ w = w') (w : World) (hx : w.cell? ⟨b, off, none⟩ = some (B8 x)) (hb : b < w.heap.size) :
    Calls Tryd.prog 65 #[.int .i64 33, .slice (some ⟨b, off, none⟩) 1 c] w (if D = 0 then FilT w 0 0 (.bool false) else FilT w 33 D (.bool true)) := by
  have hl := x.toNat_lt
  have HD := Lib.hid hD
  have hbn : b ≠ w.heap.size := by omega
  have hbn1 : b ≠ w.heap.size + 1 := by omega
  clear hD
  by_cases h0 : D = 0
  · subst h0
    rw [if_pos rfl]
    go_enter Tryd.func65, Tryd.ntmps65
    go_wp2_with fail
    refine (HD.out _).mono ?_
    rintro e w' ⟨rfl, rfl⟩
    go_wp2_with fail
    exact bodyPost_ret (v := .tuple #[.agg #[.int .i64 0, .int .u32 0], .bool false]) (by simp [results, Tryd.results65, go_sem]) rfl ⟨rfl, ((Below.refl _ _).alloc (Nat.le_refl _) _).alloc (by simp) _⟩
  · rw [if_neg h0]
    have d0 : ((D : Int) == 0) = false := by simp; omega
    go_enter Tryd.func65, Tryd.ntmps65
    go_wp2_with fail
    refine (HD.out _).mono ?_
    rintro e w' ⟨rfl, rfl⟩
    go_wp2_with fail
    exact bodyPost_ret (v := .tuple #[.agg #[.int .i64 33, .int .u32 (D : Nat)], .bool true]) (by simp [results, Tryd.results65, go_sem]) rfl ⟨rfl, ((Below.refl _ _).alloc (Nat.le_refl _) _).alloc (by simp) _⟩
set_option maxRecDepth 100000 in
set_option maxHeartbeats 400000 in
theorem rread_3 (b off c : Nat) (x : UInt8) (w : World) (hx : w.cell? ⟨b, off, none⟩ = some (B8 x)) (hb : b < w.heap.size) :
    Calls Tryd.prog 65 #[.int .i64 3, .slice (some ⟨b, off, none⟩) 1 c] w (FilT w 3 (x.toNat + 1) (.bool true)) := by
  have hl := x.toNat_lt
  have hbn : b ≠ w.heap.size := by omega
  have hbn1 : b ≠ w.heap.size + 1 := by omega
  have d0 : ((x.toNat : Int) + 1 == 0) = false := by simp; omega
  go_enter Tryd.func65, Tryd.ntmps65
  go_wp2_with fail
  exact bodyPost_ret (v := .tuple #[.agg #[.int .i64 3, .int .u32 ((x.toNat : Int) + 1)], .bool true]) (by simp [results, Tryd.results65, go_sem]) rfl ⟨congrArg (fun n : Int => Ending.returned (.tuple #[.agg #[.int .i64 3, .int .u32 n], .bool true])) (by omega), ((Below.refl _ _).alloc (Nat.le_refl _) _).alloc (by simp) _⟩
set_option maxRecDepth 100000 in
set_option maxHeartbeats 400000 in
theorem rread_no (id : Int) (h33 : id ≠ 33) (h3 : id ≠ 3) (A : Option Addr) (n c : Nat) (hn0 : n ≠ 0) (hn4 : n ≠ 4) (w : World) :
    Calls Tryd.prog 65 #[.int .i64 id, .slice A n c] w (FilT w 0 0 (.bool false)) := by
  have d33 : (id == 33) = false := by simp [h33]
  have d3 : (id == 3) = false := by simp [h3]
  have e0 : ((n : Int) != 0) = true := by simp; omega
  have e4 : ((n : Int) != 4) = true := by simp; omega
  clear h33 h3 hn0 hn4
  go_enter Tryd.func65, Tryd.ntmps65
  go_wp2_with fail
  exact bodyPost_ret (v := .tuple #[.agg #[.int .i64 0, .int .u32 0], .bool false]) (by simp [results, Tryd.results65, go_sem]) rfl ⟨rfl, ((Below.refl _ _).alloc (Nat.le_refl _) _).alloc (by simp) _⟩
set_option maxRecDepth 100000 in
set_option maxHeartbeats 400000 in
theorem rread_0 (id : Int) (h33 : id ≠ 33) (h3 : id ≠ 3) (A : Option Addr) (c : Nat) (w : World) :
    Calls Tryd.prog 65 #[.int .i64 id, .slice A 0 c] w (if isIdB id = true then FilT w id 0 (.bool true) else FilT w 0 0 (.bool false)) := by
  have HM := Lib.hid (may_any id 0)
  have hm : mayB id 0 = isIdB id := by rw [mayB_is]; simp
  rw [hm] at HM
  have d33 : (id == 33) = false := by simp [h33]
  have d3 : (id == 3) = false := by simp [h3]
  clear h33 h3 hm
  generalize isIdB id = I at *
  cases I with
  | true =>
    simp only [if_true]
    go_enter Tryd.func65, Tryd.ntmps65
    go_wp2_with fail
    go_loop [7] (fun i => i = .int .i64 (-1)) (fun _ => 0)
    case atStart => rfl
    case round =>
      subst hrel
      go_wp2_with fail
      refine (HM.out _).mono ?_
      rintro e w' ⟨rfl, rfl⟩
      go_wp2_with fail
      exact bodyPost_ret (v := .tuple #[.agg #[.int .i64 id, .int .u32 0], .bool true]) (by simp [results, Tryd.results65, go_sem]) rfl ⟨rfl, ((Below.refl _ _).alloc (Nat.le_refl _) _).alloc (by simp) _⟩
  | false =>
    simp only [Bool.false_eq_true, if_false]
    go_enter Tryd.func65, Tryd.ntmps65
    go_wp2_with fail
    go_loop [7] (fun i => i = .int .i64 (-1)) (fun _ => 0)
    case atStart => rfl
    case round =>
      subst hrel
      go_wp2_with fail
      refine (HM.out _).mono ?_
      rintro e w' ⟨rfl, rfl⟩
      go_wp2_with fail
      exact bodyPost_ret (v := .tuple #[.agg #[.int .i64 0, .int .u32 0], .bool false]) (by simp [results, Tryd.results65, go_sem]) rfl ⟨rfl, ((Below.refl _ _).alloc (Nat.le_refl _) _).alloc (by simp) _⟩
end Go.Proofs.YtaggkcgeddoogaaDoor
