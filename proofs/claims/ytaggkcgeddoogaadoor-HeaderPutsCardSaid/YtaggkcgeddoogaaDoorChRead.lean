/- chain's Read. -/
import Derived.Test.YtaggkcgeddoogaaDoorChAll
import Derived.Deep.RegionHeld3
namespace Go.Proofs.YtaggkcgeddoogaaDoor
open Go.RowKit

/-- The filter of bytes. -/
def readL (id : Int) (l : List UInt8) : Option Fil :=
  if id = 33 then (match l with | [x] => if x.toNat ≤ 40 then some ⟨33, dictN x.toNat⟩ else none | _ => none)
  else if id = 3 then (match l with | [x] => some ⟨3, x.toNat + 1⟩ | _ => none)
  else if isIdB id = true then (match l with | [] => some ⟨id, 0⟩ | [a, b, c, d] => if a.toNat % 4 = 0 then some ⟨id, word true a b c d⟩ else none | _ => none)
  else none
def OutF (w : World) (yes no : Value) (r : Option Fil) : Ending → World → Prop :=
  match r with
  | some f => FilT w f.id f.n yes
  | none => FilT w 0 0 no

set_option maxRecDepth 100000 in
set_option maxHeartbeats 400000 in
theorem cread_33no (A : Option Addr) (n c : Nat) (h : n ≠ 1) (w : World) :
    Calls Tryd.prog 58 #[.int .i64 33, .slice A n c] w (FilT w 0 0 (.int .i64 5)) := by
  have HI := Lib.hid (isBranch_any 33)
  rw [show isIdB 33 = false by decide] at HI
  have d1 : ((n : Int) == 1) = false := by simp; omega
  clear h
  go_enter Tryd.func58, Tryd.ntmps58
  go_wp2_with fail
  refine (HI.out _).mono ?_
  rintro e w' ⟨rfl, rfl⟩
  go_wp2_with fail
  refine (HI.out _).mono ?_
  rintro e w' ⟨rfl, rfl⟩
  go_wp2_with fail
  exact bodyPost_ret (v := .tuple #[.agg #[.int .i64 0, .int .u32 0], .int .i64 5]) (by simp [results, Tryd.results58, go_sem]) rfl ⟨rfl, ((Below.refl _ _).alloc (Nat.le_refl _) _).alloc (by simp) _⟩
set_option maxRecDepth 100000 in
set_option maxHeartbeats 400000 in
theorem cread_33big (b off c : Nat) (x : UInt8) (h : 40 < x.toNat) (w : World) (hx : w.cell? ⟨b, off, none⟩ = some (B8 x)) (hb : b < w.heap.size) :
    Calls Tryd.prog 58 #[.int .i64 33, .slice (some ⟨b, off, none⟩) 1 c] w (FilT w 0 0 (.int .i64 5)) := by
  have HI := Lib.hid (isBranch_any 33)
  rw [show isIdB 33 = false by decide] at HI
  have d1 : decide ((x.toNat : Int) ≤ 40) = false := by simp; omega
  clear h
  have hbn : b ≠ w.heap.size := by omega
  have hbn1 : b ≠ w.heap.size + 1 := by omega
  go_enter Tryd.func58, Tryd.ntmps58
  go_wp2_with fail
  refine (HI.out _).mono ?_
  rintro e w' ⟨rfl, rfl⟩
  go_wp2_with fail
  refine (HI.out _).mono ?_
  rintro e w' ⟨rfl, rfl⟩
  go_wp2_with fail
  exact bodyPost_ret (v := .tuple #[.agg #[.int .i64 0, .int .u32 0], .int .i64 5]) (by simp [results, Tryd.results58, go_sem]) rfl ⟨rfl, ((Below.refl _ _).alloc (Nat.le_refl _) _).alloc (by simp) _⟩
set_option maxRecDepth 100000 in
set_option maxHeartbeats 400000 in
theorem cread_33 (b off c : Nat) (x : UInt8) (h : x.toNat ≤ 40) (w : World) (hx : w.cell? ⟨b, off, none⟩ = some (B8 x)) (hb : b < w.heap.size) :
    Calls Tryd.prog 58 #[.int .i64 33, .slice (some ⟨b, off, none⟩) 1 c] w (FilT w 33 (dictN x.toNat) (.int .i64 0)) := by
  have HD := Lib.hid (dict_small x.toNat h)
  have hdl := dictN_lt x.toNat
  have d1 : decide ((x.toNat : Int) ≤ 40) = true := by simp; omega
  generalize dictN x.toNat = D at *
  have hbn : b ≠ w.heap.size := by omega
  have hbn1 : b ≠ w.heap.size + 1 := by omega
  go_enter Tryd.func58, Tryd.ntmps58
  go_wp2_with fail
  refine (HD.out _).mono ?_
  rintro e w' ⟨rfl, rfl⟩
  go_wp2_with fail
  exact bodyPost_ret (v := .tuple #[.agg #[.int .i64 33, .int .u32 (D : Nat)], .int .i64 0]) (by simp [results, Tryd.results58, go_sem]) rfl ⟨rfl, ((Below.refl _ _).alloc (Nat.le_refl _) _).alloc (by simp) _⟩
set_option maxRecDepth 100000 in
set_option maxHeartbeats 400000 in
theorem cread_3 (b off c : Nat) (x : UInt8) (w : World) (hx : w.cell? ⟨b, off, none⟩ = some (B8 x)) (hb : b < w.heap.size) :
    Calls Tryd.prog 58 #[.int .i64 3, .slice (some ⟨b, off, none⟩) 1 c] w (FilT w 3 (x.toNat + 1) (.int .i64 0)) := by
  have hl := x.toNat_lt
  have hbn : b ≠ w.heap.size := by omega
  have hbn1 : b ≠ w.heap.size + 1 := by omega
  go_enter Tryd.func58, Tryd.ntmps58
  go_wp2_with fail
  exact bodyPost_ret (v := .tuple #[.agg #[.int .i64 3, .int .u32 ((x.toNat : Int) + 1)], .int .i64 0]) (by simp [results, Tryd.results58, go_sem]) rfl ⟨congrArg (fun n : Int => Ending.returned (.tuple #[.agg #[.int .i64 3, .int .u32 n], .int .i64 0])) (by omega), ((Below.refl _ _).alloc (Nat.le_refl _) _).alloc (by simp) _⟩
set_option maxRecDepth 100000 in
set_option maxHeartbeats 400000 in
theorem cread_3no (A : Option Addr) (n c : Nat) (h : n ≠ 1) (w : World) :
    Calls Tryd.prog 58 #[.int .i64 3, .slice A n c] w (FilT w 0 0 (.int .i64 5)) := by
  have HI := Lib.hid (isBranch_any 3)
  rw [show isIdB 3 = false by decide] at HI
  have d1 : ((n : Int) == 1) = false := by simp; omega
  clear h
  go_enter Tryd.func58, Tryd.ntmps58
  go_wp2_with fail
  refine (HI.out _).mono ?_
  rintro e w' ⟨rfl, rfl⟩
  go_wp2_with fail
  refine (HI.out _).mono ?_
  rintro e w' ⟨rfl, rfl⟩
  go_wp2_with fail
  exact bodyPost_ret (v := .tuple #[.agg #[.int .i64 0, .int .u32 0], .int .i64 5]) (by simp [results, Tryd.results58, go_sem]) rfl ⟨rfl, ((Below.refl _ _).alloc (Nat.le_refl _) _).alloc (by simp) _⟩
set_option maxRecDepth 100000 in
set_option maxHeartbeats 400000 in
theorem cread_0 (id : Int) (h33 : id ≠ 33) (h3 : id ≠ 3) (hi : isIdB id = true) (A : Option Addr) (c : Nat) (w : World) :
    Calls Tryd.prog 58 #[.int .i64 id, .slice A 0 c] w (FilT w id 0 (.int .i64 0)) := by
  have HI := Lib.hid (isBranch_any id)
  rw [hi] at HI
  have d33 : (id == 33) = false := by simp [h33]
  have d3 : (id == 3) = false := by simp [h3]
  clear h33 h3 hi
  go_enter Tryd.func58, Tryd.ntmps58
  go_wp2_with fail
  refine (HI.out _).mono ?_
  rintro e w' ⟨rfl, rfl⟩
  go_wp2_with fail
  exact bodyPost_ret (v := .tuple #[.agg #[.int .i64 id, .int .u32 0], .int .i64 0]) (by simp [results, Tryd.results58, go_sem]) rfl ⟨rfl, ((Below.refl _ _).alloc (Nat.le_refl _) _).alloc (by simp) _⟩
set_option maxRecDepth 100000 in
set_option maxHeartbeats 400000 in
theorem cread_no (id : Int) (h33 : id ≠ 33) (h3 : id ≠ 3) (hi : isIdB id = true) (A : Option Addr) (n c : Nat) (hn0 : n ≠ 0) (hn4 : n ≠ 4) (w : World) :
    Calls Tryd.prog 58 #[.int .i64 id, .slice A n c] w (FilT w 0 0 (.int .i64 5)) := by
  have HI := Lib.hid (isBranch_any id)
  rw [hi] at HI
  have d33 : (id == 33) = false := by simp [h33]
  have d3 : (id == 3) = false := by simp [h3]
  have e0 : ((n : Int) == 0) = false := by simp; omega
  have e4 : ((n : Int) == 4) = false := by simp; omega
  clear h33 h3 hi hn0 hn4
  go_enter Tryd.func58, Tryd.ntmps58
  go_wp2_with fail
  refine (HI.out _).mono ?_
  rintro e w' ⟨rfl, rfl⟩
  go_wp2_with fail
  refine (HI.out _).mono ?_
  rintro e w' ⟨rfl, rfl⟩
  go_wp2_with fail
  exact bodyPost_ret (v := .tuple #[.agg #[.int .i64 0, .int .u32 0], .int .i64 5]) (by simp [results, Tryd.results58, go_sem]) rfl ⟨rfl, ((Below.refl _ _).alloc (Nat.le_refl _) _).alloc (by simp) _⟩
set_option maxRecDepth 100000 in
set_option maxHeartbeats 400000 in
theorem cread_4no (id : Int) (h33 : id ≠ 33) (h3 : id ≠ 3) (hi : isIdB id = true) (b off c : Nat) (x : UInt8) (h : x.toNat % 4 ≠ 0) (w : World) (hx : w.cell? ⟨b, off, none⟩ = some (B8 x)) (hb : b < w.heap.size) :
    Calls Tryd.prog 58 #[.int .i64 id, .slice (some ⟨b, off, none⟩) 4 c] w (FilT w 0 0 (.int .i64 5)) := by
  have HI := Lib.hid (isBranch_any id)
  rw [hi] at HI
  have d33 : (id == 33) = false := by simp [h33]
  have d3 : (id == 3) = false := by simp [h3]
  have e4 : ((x.toNat : Int) % 4 == 0) = false := by simp; omega
  have hbn : b ≠ w.heap.size := by omega
  have hbn1 : b ≠ w.heap.size + 1 := by omega
  clear h33 h3 hi h
  go_enter Tryd.func58, Tryd.ntmps58
  go_wp2_with fail
  refine (HI.out _).mono ?_
  rintro e w' ⟨rfl, rfl⟩
  go_wp2_with fail
  refine (HI.out _).mono ?_
  rintro e w' ⟨rfl, rfl⟩
  go_wp2_with fail
  exact bodyPost_ret (v := .tuple #[.agg #[.int .i64 0, .int .u32 0], .int .i64 5]) (by simp [results, Tryd.results58, go_sem]) rfl ⟨rfl, ((Below.refl _ _).alloc (Nat.le_refl _) _).alloc (by simp) _⟩
end Go.Proofs.YtaggkcgeddoogaaDoor
