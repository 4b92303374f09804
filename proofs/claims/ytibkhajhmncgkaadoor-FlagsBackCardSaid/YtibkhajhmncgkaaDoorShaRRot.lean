/- The walk over the reference's Rot. -/
import Derived.Test.YtibkhajhmncgkaaDoorShaRound
namespace Go.Proofs.YtibkhajhmncgkaaDoor
open Go.RowKit

def rotT (k x : Nat) : Nat := x / 2 ^ k + x % 2 ^ k * 2 ^ (32 - k)
theorem rotT_zero (x : Nat) : rotT 0 x = x := by simp [rotT, Nat.mod_one]
theorem rotT_lt (k x : Nat) (hk : k < 32) (hx : x < 4294967296) : rotT k x < 4294967296 := by
  unfold rotT
  have e : 2 ^ k * 2 ^ (32 - k) = 4294967296 := by rw [← Nat.pow_add, show k + (32 - k) = 32 by omega]
  have hP : 0 < 2 ^ k := Nat.pow_pos (by omega)
  have h1 : x / 2 ^ k < 2 ^ (32 - k) := by rw [Nat.div_lt_iff_lt_mul hP, Nat.mul_comm, e]; exact hx
  have h2 : x % 2 ^ k < 2 ^ k := Nat.mod_lt _ hP
  generalize 2 ^ k = P at *
  generalize 2 ^ (32 - k) = Q at *
  have h3 : (x % P + 1) * Q ≤ P * Q := Nat.mul_le_mul_right Q h2
  rw [Nat.add_mul, e] at h3
  omega
theorem rotT_succ (k x : Nat) (hk : k < 31) : rotT k x / 2 + rotT k x % 2 * 2147483648 = rotT (k + 1) x := by
  unfold rotT
  have e : 2 ^ k * 2 ^ (32 - (k + 1)) = 2147483648 := by rw [← Nat.pow_add, show k + (32 - (k + 1)) = 31 by omega]
  have eQ : 2 ^ (32 - k) = 2 * 2 ^ (32 - (k + 1)) := by rw [show 32 - k = (32 - (k + 1)) + 1 by omega, Nat.pow_succ]; omega
  rw [eQ, Nat.pow_succ]
  have hP : 0 < 2 ^ k := Nat.pow_pos (by omega)
  generalize 2 ^ k = P at *
  generalize 2 ^ (32 - (k + 1)) = Q at *
  have h1 : x / (P * 2) = x / P / 2 := by rw [Nat.div_div_eq_div_mul]
  have h2 : x % (P * 2) = x % P + P * (x / P % 2) := Nat.mod_mul
  rw [h1, h2]
  generalize x / P = d at *
  generalize x % P = c at *
  have h3 : (d + c * (2 * Q)) / 2 = d / 2 + c * Q := by rw [show c * (2 * Q) = 2 * (c * Q) by rw [Nat.mul_left_comm]]; omega
  have h4 : (d + c * (2 * Q)) % 2 = d % 2 := by rw [show c * (2 * Q) = 2 * (c * Q) by rw [Nat.mul_left_comm]]; omega
  rw [h3, h4, Nat.add_mul, ← e]
  have h5 : P * (d % 2) * Q = d % 2 * (P * Q) := by rw [Nat.mul_comm P, Nat.mul_assoc]
  rw [h5]; omega
theorem rot_toNat (n : Nat) (hn : n < 32) (x : BitVec 32) : (rot n x).toNat = rotT n x.toNat := by
  have hx := x.isLt
  unfold rot rotT
  rw [BitVec.toNat_or, BitVec.toNat_shiftLeft, BitVec.toNat_ushiftRight, Nat.shiftLeft_eq, Nat.shiftRight_eq_div_pow]
  have e : 2 ^ n * 2 ^ (32 - n) = 2 ^ 32 := by rw [← Nat.pow_add, show n + (32 - n) = 32 by omega]
  have hP : 0 < 2 ^ n := Nat.pow_pos (by omega)
  have h1 : x.toNat / 2 ^ n < 2 ^ (32 - n) := by rw [Nat.div_lt_iff_lt_mul hP, Nat.mul_comm, e]; exact hx
  have h2 : x.toNat * 2 ^ (32 - n) % 2 ^ 32 = x.toNat % 2 ^ n * 2 ^ (32 - n) := by rw [← e, Nat.mul_mod_mul_right]
  rw [h2, or_low _ _ (32 - n) h1]; omega

set_option maxRecDepth 100000 in
set_option maxHeartbeats 1000000 in
theorem rot_any (n : Nat) (hn : n < 32) (x : BitVec 32) (w : World) : Calls Tryd.prog 46 #[.int .u32 x.toNat, .int .i64 n] w fun e w' => e = .returned (.int .u32 (rot n x).toNat) ∧ w = w' := by
  have hx := x.isLt
  have HN := Lib.hid (rot_toNat n hn x)
  have HZ := Lib.hid (rotT_zero x.toNat)
  have HB := Lib.hid (fun k hk => rotT_lt k x.toNat hk hx)
  have HS := Lib.hid (fun k hk => rotT_succ k x.toNat hk)
  go_enter Tryd.func46, Tryd.ntmps46
  go_wp2_with fail
  go_loop [0, 5] (fun v i => ∃ k : Nat, k ≤ n ∧ i = .int .i64 k ∧ v = .int .u32 (rotT k x.toNat : Nat)) (fun _ i => n - (intOf i).toNat)
  case atStart => exact ⟨0, by omega, rfl, by rw [HZ.out]⟩
  case round =>
    obtain ⟨k, hk, rfl, rfl⟩ := hrel
    by_cases hlt : k < n
    · have hb := HB.out k (by omega)
      have hs := HS.out k (by omega)
      obtain ⟨r2, hr2⟩ : ∃ r, rotT (k + 1) x.toNat = r := ⟨_, rfl⟩
      rw [hr2] at hs
      have HR2 := Lib.hid hr2
      have hki : (k : Int) < (n : Int) := by omega
      generalize rotT k x.toNat = r at *
      have hri : (r : Int) < 4294967296 := by omega
      have hr0 : (0 : Int) ≤ (r : Int) := by omega
      have hsi : (r : Int) / 2 + (r : Int) % 2 * 2147483648 = (r2 : Int) := by omega
      have HSI := Lib.hid hsi
      clear hs hr2 hsi
      go_wp2_with fail
      go_round
      case rel => exact ⟨k + 1, by omega, by go_num, by rw [HR2.out, ← HSI.out]⟩
      case measure => simp [intOf]; omega
    · obtain rfl : k = n := by omega
      go_wp2_with fail
      go_ret
      exact ⟨by rw [HN.out]; rfl, rfl⟩
end Go.Proofs.YtibkhajhmncgkaaDoor
