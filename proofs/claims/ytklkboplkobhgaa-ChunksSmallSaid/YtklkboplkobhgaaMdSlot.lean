/- The model's slotOf. -/
import Derived.Test.YtklkboplkobhgaaMdTree
import Derived.Test.YtklkboplkobhgaaShelf
import Derived.Test.YtklkboplkobhgaaRcAll
import Derived.Lib.MinMax
namespace Go.Proofs.Ytklkboplkobhgaa
set_option maxRecDepth 100000
open Go.RowKit

def slotN (d : Nat) : Nat := if d < 4 then d else 2 * Lib.bitLen d - 2 + d / 2 ^ (Lib.bitLen d - 2) % 2
theorem bitLen_range {d : Nat} (h4 : 4 ≤ d) (h : d < 4294967296) : 3 ≤ Lib.bitLen d ∧ Lib.bitLen d ≤ 32 := by
  rw [Lib.bitLen_shift 2 d h4 (by omega)]
  have h5 : d / 2 ^ 2 ≠ 0 := by omega
  rw [Lib.bitLen_half (d / 2 ^ 2) h5 (by omega)]
  have h6 : d / 2 ^ 2 / 2 < 2 ^ 29 := by omega
  have h7 : ∀ (f x : Nat), x < 2 ^ f → Lib.bitLenAux 64 x ≤ f ∨ 64 < f := fun f x hx => by
    by_cases hf : f ≤ 64
    · left
      rw [Lib.bitLenAux_fuel f x hx 64 hf]
      clear hx hf
      induction f generalizing x with
      | zero => exact Nat.le_refl _
      | succ f ih =>
        unfold Lib.bitLenAux
        split
        · omega
        · have := ih (x / 2); omega
    · right; omega
  have h8 := h7 29 _ h6
  unfold Lib.bitLen
  omega
theorem slotN_lt {d : Nat} (h : d < 4294967296) : slotN d < 64 := by
  unfold slotN
  split
  · omega
  · have := bitLen_range (d := d) (by omega) h
    omega
theorem u32_and_one (x : Nat) (hx : x < 4294967296) : bits .and .u32 (x : Int) 1 = ((x % 2 : Nat) : Int) := by
  rw [show (1 : Int) = ((1 : Nat) : Int) from rfl, u32_and_nat _ _ (by omega) (by omega), nat_mask1]
set_option maxRecDepth 100000 in
set_option maxHeartbeats 1000000 in
theorem slot_any (d : Nat) (hd : d < 4294967296) (w : World) : Calls Try.prog 58 #[.int .u32 (d : Nat)] w fun e w' => e = .returned (.int .i64 (slotN d : Nat)) ∧ w = w' := by
  by_cases h4 : d < 4
  · have h4i : (d : Int) < 4 := by omega
    have HS : Hid (slotN d = d) := Lib.hid (by unfold slotN; rw [if_pos h4])
    rw [HS.out]
    go_enter Try.func58, Try.ntmps58
    go_wp2_with fail
    go_ret
    exact ⟨rfl, rfl⟩
  · have h4i : ¬ (d : Int) < 4 := by omega
    obtain ⟨n1, n2⟩ := bitLen_range (d := d) (by omega) hd
    have HL := Lib.hid (Shelf_bits_Len32 (d : Nat) w (by omega) (by omega))
    obtain ⟨S, hS⟩ : ∃ S, slotN d = S := ⟨_, rfl⟩
    rw [hS]
    unfold slotN at hS
    rw [if_neg h4] at hS
    rw [Int.toNat_natCast] at HL
    generalize Lib.bitLen d = n at *
    have hn1 : (3 : Int) ≤ (n : Int) := by omega
    have hn2 : (n : Int) ≤ 32 := by omega
    have HS := Lib.hid hS
    clear hS
    go_enter Try.func58, Try.ntmps58
    go_wp2_with fail
    refine HL.out.mono ?_
    rintro e w1 ⟨rfl, rfl⟩
    go_wp2_with fail
    go_ret
    refine ⟨congrArg (fun n : Int => Ending.returned (Value.int .i64 n)) ?_, rfl⟩
    rw [← HS.out]
    have e : (d : Int) / 2 ^ (n - 2) = ((d / 2 ^ (n - 2) : Nat) : Int) := by simp
    have hle : d / 2 ^ (n - 2) ≤ d := Nat.div_le_self _ _
    rw [e, u32_and_one _ (by omega)]
    unfold wrap64
    omega
end Go.Proofs.Ytklkboplkobhgaa
