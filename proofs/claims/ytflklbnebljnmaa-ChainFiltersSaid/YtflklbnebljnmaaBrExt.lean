/- The walks over branch's extend, page and the four filters. -/
import Derived.Test.YtflklbnebljnmaaBrLit
namespace Go.Proofs.Ytflklbnebljnmaa
open Go.RowKit

/-- The lowest bits of a number, all above them alike the highest. -/
def ext (m x : Nat) : Nat := if x % m < m / 2 then x % m else x % m + 4294967296 - m
theorem wrap32_eq (x : Int) : wrap32 x = (x + 2147483648) % 4294967296 - 2147483648 := by
  unfold wrap32; rfl

set_option maxHeartbeats 400000 in
theorem extend_23 (x : Nat) (w : World) : Calls Try.prog 54 #[.int .u32 (x : Nat), .int .i64 23] w fun e w' => e = .returned (.int .u32 (ext 8388608 x : Nat)) ∧ w = w' := by
  go_enter Try.func54, Try.ntmps54
  go_wp2_with fail
  go_ret
  refine ⟨congrArg (fun n : Int => Ending.returned (Value.int .u32 n)) ?_, rfl⟩
  rw [wrap32_eq]; unfold ext; split <;> omega
set_option maxHeartbeats 400000 in
theorem extend_18 (x : Nat) (w : World) : Calls Try.prog 54 #[.int .u32 (x : Nat), .int .i64 18] w fun e w' => e = .returned (.int .u32 (ext 262144 x : Nat)) ∧ w = w' := by
  go_enter Try.func54, Try.ntmps54
  go_wp2_with fail
  go_ret
  refine ⟨congrArg (fun n : Int => Ending.returned (Value.int .u32 n)) ?_, rfl⟩
  rw [wrap32_eq]; unfold ext; split <;> omega

/-- A number with some bits of another. -/
def mix (lo hi a b : Nat) : Nat := a % 2 ^ lo + b / 2 ^ lo % 2 ^ (hi - lo) * 2 ^ lo + a / 2 ^ hi * 2 ^ hi
theorem mix_or (lo hi a b : Nat) (h : lo ≤ hi) : mix lo hi a b = (a % 2 ^ lo ||| b / 2 ^ lo % 2 ^ (hi - lo) * 2 ^ lo) ||| a / 2 ^ hi * 2 ^ hi := by
  unfold mix
  have h1 : a % 2 ^ lo < 2 ^ lo := Nat.mod_lt _ (Nat.two_pow_pos _)
  rw [or_up _ _ lo h1]
  have h2 : b / 2 ^ lo % 2 ^ (hi - lo) < 2 ^ (hi - lo) := Nat.mod_lt _ (Nat.two_pow_pos _)
  have h3 : a % 2 ^ lo + b / 2 ^ lo % 2 ^ (hi - lo) * 2 ^ lo < 2 ^ hi := by
    have h4 : (b / 2 ^ lo % 2 ^ (hi - lo) + 1) * 2 ^ lo ≤ 2 ^ (hi - lo) * 2 ^ lo := Nat.mul_le_mul_right _ h2
    rw [← Nat.pow_add, show hi - lo + lo = hi from by omega, Nat.add_mul] at h4
    omega
  rw [or_up _ _ hi h3]
theorem mix_bit (lo hi a b : Nat) (h : lo ≤ hi) (j : Nat) : (mix lo hi a b).testBit j = if lo ≤ j ∧ j < hi then b.testBit j else a.testBit j := by
  rw [mix_or _ _ _ _ h, Nat.testBit_or, Nat.testBit_or, Nat.testBit_mod_two_pow, Nat.testBit_mul_two_pow, Nat.testBit_mul_two_pow, Nat.testBit_mod_two_pow, Nat.testBit_div_two_pow, Nat.testBit_div_two_pow]
  by_cases h1 : lo ≤ j <;> by_cases h2 : j < hi
  · have e : j - lo + lo = j := by omega
    have e2 : j - lo < hi - lo := by omega
    simp [h1, h2, e, e2, Nat.not_lt.mpr h1, Nat.not_le.mpr h2]
  · have e : j - hi + hi = j := by omega
    have e2 : ¬ (j - lo < hi - lo) := by omega
    simp [h1, h2, e, e2, Nat.not_lt.mpr h1, Nat.not_lt.mp h2]
  · simp [h1, h2, Nat.not_le.mp h1, Nat.not_le.mpr h2]
  · omega
theorem within_bits (lo hi a b : Nat) (h : lo ≤ hi) (h32 : hi ≤ 32) (ha : a < 4294967296) : ((BitVec.ofNat 32 a &&& ~~~(BitVec.ofNat 32 ((2 ^ (hi - lo) - 1) * 2 ^ lo))) ||| (BitVec.ofNat 32 b &&& BitVec.ofNat 32 ((2 ^ (hi - lo) - 1) * 2 ^ lo))).toNat = mix lo hi a b := by
  apply Nat.eq_of_testBit_eq
  intro j
  rw [mix_bit lo hi a b h]
  rw [BitVec.testBit_toNat]
  by_cases hj : j < 32
  · simp only [BitVec.getLsbD_or, BitVec.getLsbD_and, BitVec.getLsbD_not, BitVec.getLsbD_ofNat, hj, decide_true, Bool.true_and, Nat.testBit_mul_two_pow, Nat.testBit_two_pow_sub_one]
    by_cases h1 : lo ≤ j <;> by_cases h2 : j < hi
    · have e2 : j - lo < hi - lo := by omega
      simp [h1, h2, e2]
    · have e2 : ¬ (j - lo < hi - lo) := by omega
      simp [h1, h2, e2]
    · simp [h1]
    · simp [h1]
  · rw [if_neg (by omega)]
    rw [BitVec.getLsbD_of_ge _ _ (by omega)]
    rw [Nat.testBit_lt_two_pow]
    exact Nat.lt_of_lt_of_le ha (by have := Nat.pow_le_pow_right (n := 2) (by omega) (show 32 ≤ j by omega); omega)
theorem within_mix (lo hi a b m : Nat) (w : World) (h : lo ≤ hi) (h32 : hi ≤ 32) (ha : a < 4294967296) (hb : b < 4294967296) (hm : (2 ^ (hi - lo) - 1) * 2 ^ lo = m) (hm2 : m < 4294967296) :
    Calls Try.prog 51 #[.int .u32 (a : Nat), .int .u32 (b : Nat), .int .u32 (m : Nat)] w fun e w' => e = .returned (.int .u32 (mix lo hi a b : Nat)) ∧ w = w' := by
  have := within_any (BitVec.ofNat 32 a) (BitVec.ofNat 32 b) (BitVec.ofNat 32 m) w
  rw [← hm] at this
  rw [within_bits lo hi a b h h32 ha] at this
  rw [hm] at this
  simp only [BitVec.toNat_ofNat] at this
  rw [Nat.mod_eq_of_lt ha, Nat.mod_eq_of_lt hb, Nat.mod_eq_of_lt hm2] at this
  exact this
theorem and_low (x k m : Nat) (hx : x < 4294967296) (hm : 2 ^ k - 1 = m) (hm2 : m < 4294967296) : bits .and .u32 (x : Int) ((m : Nat) : Int) = ((x % 2 ^ k : Nat) : Int) := by
  rw [u32_and_nat _ _ hx hm2, ← hm, Nat.and_two_pow_sub_one_eq_mod]
theorem and_9f (x : Nat) (hx : x < 4294967296) : bits .and .u32 (x : Int) 2667577344 = ((x / 2147483648 * 2147483648 + x / 16777216 % 32 * 16777216 : Nat) : Int) := by
  have := u32_and_nat x 2667577344 hx (by omega)
  rw [show ((2667577344 : Nat) : Int) = 2667577344 from rfl] at this
  rw [this]
  congr 1
  have e : x / 2147483648 * 2147483648 + x / 16777216 % 32 * 16777216 = (x / 16777216 % 2 ^ 5 * 2 ^ 24) ||| x / 2 ^ 31 * 2 ^ 31 := by
    rw [or_up _ _ 31 (by omega)]; omega
  rw [e]
  apply Nat.eq_of_testBit_eq
  intro j
  have hb : (2667577344 : Nat) = (2 ^ 5 - 1) * 2 ^ 24 ||| 1 * 2 ^ 31 := by decide
  rw [hb, Nat.testBit_and, Nat.testBit_or, Nat.testBit_or, Nat.testBit_mul_two_pow, Nat.testBit_mul_two_pow, Nat.testBit_mul_two_pow, Nat.testBit_mul_two_pow, Nat.testBit_two_pow_sub_one, Nat.testBit_mod_two_pow, show (16777216 : Nat) = 2 ^ 24 from rfl, Nat.testBit_div_two_pow, Nat.testBit_div_two_pow]
  by_cases hj : j < 32
  · by_cases h1 : 24 ≤ j
    · have e : j - 24 + 24 = j := by omega
      by_cases h2 : 31 ≤ j
      · have e2 : j = 31 := by omega
        subst e2
        simp
      · have e3 : Nat.testBit 1 (j - 31) = true := by rw [show j - 31 = 0 from by omega]; rfl
        simp [h1, h2, e]
        exact Bool.and_comm _ _
    · have h2 : ¬ 31 ≤ j := by omega
      simp [h1, h2]
  · have hz : x.testBit j = false := Nat.testBit_lt_two_pow (Nat.lt_of_lt_of_le hx (by have := Nat.pow_le_pow_right (n := 2) (by omega) (show 32 ≤ j by omega); omega))
    have e : j - 24 + 24 = j := by omega
    have e2 : j - 31 + 31 = j := by omega
    rw [e, e2, hz]; simp
end Go.Proofs.Ytflklbnebljnmaa
