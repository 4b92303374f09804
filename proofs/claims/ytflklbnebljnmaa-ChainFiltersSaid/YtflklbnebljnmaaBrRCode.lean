/- The reference's Number, May and Code of layer 14. -/
import Derived.Test.YtflklbnebljnmaaBrFour
namespace Go.Proofs.Ytflklbnebljnmaa
open Go.RowKit

/-- The first bytes' number, the highest first. -/
def numTo (y0 y1 y2 y3 : Nat) : Nat → Nat
  | 0 => 0
  | 1 => y0
  | 2 => 256 * y0 + y1
  | 3 => 256 * (256 * y0 + y1) + y2
  | _ => 256 * (256 * (256 * y0 + y1) + y2) + y3
theorem num0 (y0 y1 y2 y3 : Nat) : numTo y0 y1 y2 y3 0 = 0 := rfl
theorem num1 (y0 y1 y2 y3 : Nat) : numTo y0 y1 y2 y3 1 = y0 := rfl
theorem num2 (y0 y1 y2 y3 : Nat) : numTo y0 y1 y2 y3 2 = 256 * y0 + y1 := rfl
theorem num3 (y0 y1 y2 y3 : Nat) : numTo y0 y1 y2 y3 3 = 256 * (256 * y0 + y1) + y2 := rfl
theorem num4 (y0 y1 y2 y3 : Nat) : numTo y0 y1 y2 y3 4 = 256 * (256 * (256 * y0 + y1) + y2) + y3 := rfl

set_option maxRecDepth 100000 in
set_option maxHeartbeats 1000000 in
theorem number_high (b off c : Nat) (x0 x1 x2 x3 : UInt8) (w : World) (h0 : w.cell? ⟨b, off, none⟩ = some (B8 x0)) (h1 : w.cell? ⟨b, off + 1, none⟩ = some (B8 x1)) (h2 : w.cell? ⟨b, off + 2, none⟩ = some (B8 x2)) (h3 : w.cell? ⟨b, off + 3, none⟩ = some (B8 x3)) :
    Calls Try.prog 38 #[.slice (some ⟨b, off, none⟩) 4 c, .bool true] w fun e w' => e = .returned (.int .i64 (word false x0 x1 x2 x3 : Nat)) ∧ w = w' := by
  have p0 := x0.toNat_lt
  have p1 := x1.toNat_lt
  have p2 := x2.toNat_lt
  have p3 := x3.toNat_lt
  have hwd : word false x0 x1 x2 x3 = numTo x0.toNat x1.toNat x2.toNat x3.toNat 4 := by rw [num4]; simp only [word, Bool.false_eq_true, if_false]; omega
  have HW := Lib.hid hwd
  clear hwd
  generalize word false x0 x1 x2 x3 = R at *
  go_enter Try.func38, Try.ntmps38
  go_wp2_with fail
  go_loop [5, 6] (fun n i => ∃ k : Nat, k ≤ 4 ∧ i = .int .i64 k ∧ n = .int .i64 (numTo x0.toNat x1.toNat x2.toNat x3.toNat k : Nat)) (fun _ i => 4 - (intOf i).toNat)
  case atStart => exact ⟨0, by omega, rfl, rfl⟩
  case round =>
    obtain ⟨k, hk, rfl, rfl⟩ := hrel
    have hcase : k = 0 ∨ k = 1 ∨ k = 2 ∨ k = 3 ∨ k = 4 := by omega
    rcases hcase with rfl | rfl | rfl | rfl | rfl
    · have hrn : numTo x0.toNat x1.toNat x2.toNat x3.toNat 0 < 16777216 := by rw [num0]; omega
      have hnx : ((numTo x0.toNat x1.toNat x2.toNat x3.toNat 1 : Nat) : Int) = 256 * ((numTo x0.toNat x1.toNat x2.toNat x3.toNat 0 : Nat) : Int) + (x0.toNat : Int) := by rw [num0, num1]; omega
      have HX := Lib.hid hnx
      clear hnx
      generalize numTo x0.toNat x1.toNat x2.toNat x3.toNat 0 = N at *
      go_wp2_with fail
      go_round
      case rel => exact ⟨1, by omega, rfl, by rw [HX.out]⟩
      case measure => simp [intOf]
    · have hrn : numTo x0.toNat x1.toNat x2.toNat x3.toNat 1 < 16777216 := by rw [num1]; omega
      have hnx : ((numTo x0.toNat x1.toNat x2.toNat x3.toNat 2 : Nat) : Int) = 256 * ((numTo x0.toNat x1.toNat x2.toNat x3.toNat 1 : Nat) : Int) + (x1.toNat : Int) := by rw [num1, num2]; omega
      have HX := Lib.hid hnx
      clear hnx
      generalize numTo x0.toNat x1.toNat x2.toNat x3.toNat 1 = N at *
      go_wp2_with fail
      go_round
      case rel => exact ⟨2, by omega, rfl, by rw [HX.out]⟩
      case measure => simp [intOf]
    · have hrn : numTo x0.toNat x1.toNat x2.toNat x3.toNat 2 < 16777216 := by rw [num2]; omega
      have hnx : ((numTo x0.toNat x1.toNat x2.toNat x3.toNat 3 : Nat) : Int) = 256 * ((numTo x0.toNat x1.toNat x2.toNat x3.toNat 2 : Nat) : Int) + (x2.toNat : Int) := by rw [num2, num3]; omega
      have HX := Lib.hid hnx
      clear hnx
      generalize numTo x0.toNat x1.toNat x2.toNat x3.toNat 2 = N at *
      go_wp2_with fail
      go_round
      case rel => exact ⟨3, by omega, rfl, by rw [HX.out]⟩
      case measure => simp [intOf]
    · have hrn : numTo x0.toNat x1.toNat x2.toNat x3.toNat 3 < 16777216 := by rw [num3]; omega
      have hnx : ((numTo x0.toNat x1.toNat x2.toNat x3.toNat 4 : Nat) : Int) = 256 * ((numTo x0.toNat x1.toNat x2.toNat x3.toNat 3 : Nat) : Int) + (x3.toNat : Int) := by rw [num3, num4]; omega
      have HX := Lib.hid hnx
      clear hnx
      generalize numTo x0.toNat x1.toNat x2.toNat x3.toNat 3 = N at *
      go_wp2_with fail
      go_round
      case rel => exact ⟨4, by omega, rfl, by rw [HX.out]⟩
      case measure => simp [intOf]
    · have e4 : ((4 : Nat) : Int) = 4 := rfl
      rw [e4]
      rw [← HW.out]
      go_wp2_with fail
      go_ret
      exact ⟨rfl, rfl⟩

set_option maxRecDepth 100000 in
set_option maxHeartbeats 1000000 in
theorem number_low (b off c : Nat) (x0 x1 x2 x3 : UInt8) (w : World) (h0 : w.cell? ⟨b, off, none⟩ = some (B8 x0)) (h1 : w.cell? ⟨b, off + 1, none⟩ = some (B8 x1)) (h2 : w.cell? ⟨b, off + 2, none⟩ = some (B8 x2)) (h3 : w.cell? ⟨b, off + 3, none⟩ = some (B8 x3)) :
    Calls Try.prog 38 #[.slice (some ⟨b, off, none⟩) 4 c, .bool false] w fun e w' => e = .returned (.int .i64 (word true x0 x1 x2 x3 : Nat)) ∧ w = w' := by
  have p0 := x0.toNat_lt
  have p1 := x1.toNat_lt
  have p2 := x2.toNat_lt
  have p3 := x3.toNat_lt
  have hwd : word true x0 x1 x2 x3 = numTo x3.toNat x2.toNat x1.toNat x0.toNat 4 := by rw [num4]; simp only [word, if_true]; omega
  have HW := Lib.hid hwd
  clear hwd
  generalize word true x0 x1 x2 x3 = R at *
  go_enter Try.func38, Try.ntmps38
  go_wp2_with fail
  go_loop [5, 6] (fun n i => ∃ k : Nat, k ≤ 4 ∧ i = .int .i64 k ∧ n = .int .i64 (numTo x3.toNat x2.toNat x1.toNat x0.toNat k : Nat)) (fun _ i => 4 - (intOf i).toNat)
  case atStart => exact ⟨0, by omega, rfl, rfl⟩
  case round =>
    obtain ⟨k, hk, rfl, rfl⟩ := hrel
    have hcase : k = 0 ∨ k = 1 ∨ k = 2 ∨ k = 3 ∨ k = 4 := by omega
    rcases hcase with rfl | rfl | rfl | rfl | rfl
    · have hrn : numTo x3.toNat x2.toNat x1.toNat x0.toNat 0 < 16777216 := by rw [num0]; omega
      have hnx : ((numTo x3.toNat x2.toNat x1.toNat x0.toNat 1 : Nat) : Int) = 256 * ((numTo x3.toNat x2.toNat x1.toNat x0.toNat 0 : Nat) : Int) + (x3.toNat : Int) := by rw [num0, num1]; omega
      have HX := Lib.hid hnx
      clear hnx
      generalize numTo x3.toNat x2.toNat x1.toNat x0.toNat 0 = N at *
      go_wp2_with fail
      go_round
      case rel => exact ⟨1, by omega, rfl, by rw [HX.out]⟩
      case measure => simp [intOf]
    · have hrn : numTo x3.toNat x2.toNat x1.toNat x0.toNat 1 < 16777216 := by rw [num1]; omega
      have hnx : ((numTo x3.toNat x2.toNat x1.toNat x0.toNat 2 : Nat) : Int) = 256 * ((numTo x3.toNat x2.toNat x1.toNat x0.toNat 1 : Nat) : Int) + (x2.toNat : Int) := by rw [num1, num2]; omega
      have HX := Lib.hid hnx
      clear hnx
      generalize numTo x3.toNat x2.toNat x1.toNat x0.toNat 1 = N at *
      go_wp2_with fail
      go_round
      case rel => exact ⟨2, by omega, rfl, by rw [HX.out]⟩
      case measure => simp [intOf]
    · have hrn : numTo x3.toNat x2.toNat x1.toNat x0.toNat 2 < 16777216 := by rw [num2]; omega
      have hnx : ((numTo x3.toNat x2.toNat x1.toNat x0.toNat 3 : Nat) : Int) = 256 * ((numTo x3.toNat x2.toNat x1.toNat x0.toNat 2 : Nat) : Int) + (x1.toNat : Int) := by rw [num2, num3]; omega
      have HX := Lib.hid hnx
      clear hnx
      generalize numTo x3.toNat x2.toNat x1.toNat x0.toNat 2 = N at *
      go_wp2_with fail
      go_round
      case rel => exact ⟨3, by omega, rfl, by rw [HX.out]⟩
      case measure => simp [intOf]
    · have hrn : numTo x3.toNat x2.toNat x1.toNat x0.toNat 3 < 16777216 := by rw [num3]; omega
      have hnx : ((numTo x3.toNat x2.toNat x1.toNat x0.toNat 4 : Nat) : Int) = 256 * ((numTo x3.toNat x2.toNat x1.toNat x0.toNat 3 : Nat) : Int) + (x0.toNat : Int) := by rw [num3, num4]; omega
      have HX := Lib.hid hnx
      clear hnx
      generalize numTo x3.toNat x2.toNat x1.toNat x0.toNat 3 = N at *
      go_wp2_with fail
      go_round
      case rel => exact ⟨4, by omega, rfl, by rw [HX.out]⟩
      case measure => simp [intOf]
    · have e4 : ((4 : Nat) : Int) = 4 := rfl
      rw [e4]
      rw [← HW.out]
      go_wp2_with fail
      go_ret
      exact ⟨rfl, rfl⟩

theorem number_any (low : Bool) (b off c : Nat) (x0 x1 x2 x3 : UInt8) (w : World) (h0 : w.cell? ⟨b, off, none⟩ = some (B8 x0)) (h1 : w.cell? ⟨b, off + 1, none⟩ = some (B8 x1)) (h2 : w.cell? ⟨b, off + 2, none⟩ = some (B8 x2)) (h3 : w.cell? ⟨b, off + 3, none⟩ = some (B8 x3)) :
    Calls Try.prog 38 #[.slice (some ⟨b, off, none⟩) 4 c, .bool (!low)] w fun e w' => e = .returned (.int .i64 (word low x0 x1 x2 x3 : Nat)) ∧ w = w' := by
  cases low
  · exact number_high b off c x0 x1 x2 x3 w h0 h1 h2 h3
  · exact number_low b off c x0 x1 x2 x3 w h0 h1 h2 h3
theorem turned_any (id : Int) (hid : isId id) (back : Bool) (W P : Nat) (w : World) (hW : W < 4294967296) (hP : P < 4294967296) :
    Calls Try.prog 37 #[.int .i64 id, .int .i64 (W : Nat), .int .i64 (P : Nat), .bool back] w fun e w' => e = .returned (.int .i64 (cvOf id back W P : Nat)) ∧ w = w' := by
  rcases hid with rfl | rfl | rfl | rfl
  · exact turned_5 back W P w hW hP
  · exact turned_7 back W P w hW hP
  · exact turned_9 back W P w hW hP
  · exact turned_10 back W P w hW hP

def mayB (id : Int) (start : Nat) : Bool := (id == 5 || id == 7 || id == 9 || id == 10) && start % 4 == 0
theorem mayB_iff (id : Int) (start : Nat) : mayB id start = true ↔ isId id ∧ start % 4 = 0 := by
  unfold mayB isId; simp [or_assoc]
set_option maxHeartbeats 400000 in
theorem may_any (id : Int) (start : Nat) (w : World) : Calls Try.prog 31 #[.int .i64 id, .int .u32 (start : Nat)] w fun e w' => e = .returned (.bool (mayB id start)) ∧ w = w' := by
  have hs : ((start : Int) % 4 == 0) = (start % 4 == 0) := by rw [Bool.eq_iff_iff]; simp; omega
  have hm : mayB id start = ((id == 5 || id == 7 || id == 9 || id == 10) && start % 4 == 0) := rfl
  generalize mayB id start = M at *
  generalize (start % 4 == 0) = T at *
  by_cases h5 : id = 5
  · subst h5
    simp only [show ((5 : Int) == 5) = true from rfl, Bool.true_or, Bool.true_and] at hm
    subst hm
    go_enter Try.func31, Try.ntmps31
    go_wp2_with fail
    go_ret
    exact ⟨rfl, rfl⟩
  · have b5 : (id == 5) = false := by simp [h5]
    by_cases h7 : id = 7
    · subst h7
      simp only [show ((7 : Int) == 7) = true from rfl, Bool.or_true, Bool.true_or, Bool.true_and] at hm
      subst hm
      clear h5 b5
      go_enter Try.func31, Try.ntmps31
      go_wp2_with fail
      go_ret
      exact ⟨rfl, rfl⟩
    · have b7 : (id == 7) = false := by simp [h7]
      by_cases h9 : id = 9
      · subst h9
        simp only [show ((9 : Int) == 9) = true from rfl, Bool.or_true, Bool.true_or, Bool.true_and] at hm
        subst hm
        clear h5 b5 h7 b7
        go_enter Try.func31, Try.ntmps31
        go_wp2_with fail
        go_ret
        exact ⟨rfl, rfl⟩
      · have b9 : (id == 9) = false := by simp [h9]
        rw [b5, b7, b9] at hm
        simp only [Bool.false_or] at hm
        by_cases h10 : id = 10
        · subst h10
          simp only [show ((10 : Int) == 10) = true from rfl, Bool.true_and] at hm
          subst hm
          clear h5 b5 h7 b7 h9 b9
          go_enter Try.func31, Try.ntmps31
          go_wp2_with fail
          go_ret
          exact ⟨rfl, rfl⟩
        · have b10 : (id == 10) = false := by simp [h10]
          rw [b10] at hm
          simp only [Bool.false_and] at hm
          subst hm
          clear h5 h7 h9 h10
          go_enter Try.func31, Try.ntmps31
          go_wp2_with fail
          go_ret
          exact ⟨rfl, rfl⟩

end Go.Proofs.Ytflklbnebljnmaa
