/- Words of SHA-256: turned to the right. -/
import Derived.Test.YtibkhajhmncgkaaDoorBase
namespace Go.Proofs.YtibkhajhmncgkaaDoor
open Go.RowKit

theorem sx32 (a b : BitVec 32) : bits .xor .u32 (a.toNat : Int) (b.toNat : Int) = ((a ^^^ b).toNat : Int) := by rw [u32_xor_nat _ _ a.isLt b.isLt, BitVec.toNat_xor]
theorem sa32 (a b : BitVec 32) : bits .and .u32 (a.toNat : Int) (b.toNat : Int) = ((a &&& b).toNat : Int) := by rw [u32_and_nat _ _ a.isLt b.isLt, BitVec.toNat_and]
theorem so32 (a b : BitVec 32) : bits .or .u32 (a.toNat : Int) (b.toNat : Int) = ((a ||| b).toNat : Int) := by rw [u32_or_nat _ _ a.isLt b.isLt, BitVec.toNat_or]
theorem add32 (a b : BitVec 32) : IntKind.u32.wrap ((a.toNat : Int) + (b.toNat : Int)) = ((a + b).toNat : Int) := by
  rw [IntKind.wrap_u32, BitVec.toNat_add]; omega
/-- A word turned to the right. -/
def rot (n : Nat) (x : BitVec 32) : BitVec 32 := (x <<< (32 - n)) ||| (x >>> n)
theorem rot_val (n : Nat) (x : BitVec 32) : bits .or .u32 ((x.toNat : Int) * ((2 ^ (32 - n) : Nat) : Int) % 4294967296) ((x.toNat : Int) / ((2 ^ n : Nat) : Int)) = ((rot n x).toNat : Int) := by
  have h1 : (x.toNat : Int) * ((2 ^ (32 - n) : Nat) : Int) % 4294967296 = ((x <<< (32 - n)).toNat : Int) := by
    rw [BitVec.toNat_shiftLeft, Nat.shiftLeft_eq]
    show _ = ((x.toNat * 2 ^ (32 - n) % 4294967296 : Nat) : Int)
    rw [Int.natCast_emod, Int.natCast_mul]; rfl
  have h2 : (x.toNat : Int) / ((2 ^ n : Nat) : Int) = ((x >>> n).toNat : Int) := by
    rw [BitVec.toNat_ushiftRight, Nat.shiftRight_eq_div_pow, Int.natCast_ediv]
  rw [h1, h2, so32]; rfl

set_option maxHeartbeats 400000 in
theorem right_2 (x : BitVec 32) (w : World) : Calls Tryd.prog 65 #[.int .u32 x.toNat, .int .i64 2] w fun e w' => e = .returned (.int .u32 (rot 2 x).toNat) ∧ w = w' := by
  have hx := x.isLt
  have e1 : bits .and .u64 (IntKind.u64.wrap (-2)) 31 = 30 := by decide
  have hr := rot_val 2 x
  simp only [Nat.reducePow, Nat.reduceSub, Int.cast_ofNat_Int] at hr
  go_enter Tryd.func65, Tryd.ntmps65
  go_wp2
  go_ret
  exact ⟨rfl, rfl⟩
set_option maxHeartbeats 400000 in
theorem right_6 (x : BitVec 32) (w : World) : Calls Tryd.prog 65 #[.int .u32 x.toNat, .int .i64 6] w fun e w' => e = .returned (.int .u32 (rot 6 x).toNat) ∧ w = w' := by
  have hx := x.isLt
  have e1 : bits .and .u64 (IntKind.u64.wrap (-6)) 31 = 26 := by decide
  have hr := rot_val 6 x
  simp only [Nat.reducePow, Nat.reduceSub, Int.cast_ofNat_Int] at hr
  go_enter Tryd.func65, Tryd.ntmps65
  go_wp2
  go_ret
  exact ⟨rfl, rfl⟩
set_option maxHeartbeats 400000 in
theorem right_7 (x : BitVec 32) (w : World) : Calls Tryd.prog 65 #[.int .u32 x.toNat, .int .i64 7] w fun e w' => e = .returned (.int .u32 (rot 7 x).toNat) ∧ w = w' := by
  have hx := x.isLt
  have e1 : bits .and .u64 (IntKind.u64.wrap (-7)) 31 = 25 := by decide
  have hr := rot_val 7 x
  simp only [Nat.reducePow, Nat.reduceSub, Int.cast_ofNat_Int] at hr
  go_enter Tryd.func65, Tryd.ntmps65
  go_wp2
  go_ret
  exact ⟨rfl, rfl⟩
set_option maxHeartbeats 400000 in
theorem right_11 (x : BitVec 32) (w : World) : Calls Tryd.prog 65 #[.int .u32 x.toNat, .int .i64 11] w fun e w' => e = .returned (.int .u32 (rot 11 x).toNat) ∧ w = w' := by
  have hx := x.isLt
  have e1 : bits .and .u64 (IntKind.u64.wrap (-11)) 31 = 21 := by decide
  have hr := rot_val 11 x
  simp only [Nat.reducePow, Nat.reduceSub, Int.cast_ofNat_Int] at hr
  go_enter Tryd.func65, Tryd.ntmps65
  go_wp2
  go_ret
  exact ⟨rfl, rfl⟩
set_option maxHeartbeats 400000 in
theorem right_13 (x : BitVec 32) (w : World) : Calls Tryd.prog 65 #[.int .u32 x.toNat, .int .i64 13] w fun e w' => e = .returned (.int .u32 (rot 13 x).toNat) ∧ w = w' := by
  have hx := x.isLt
  have e1 : bits .and .u64 (IntKind.u64.wrap (-13)) 31 = 19 := by decide
  have hr := rot_val 13 x
  simp only [Nat.reducePow, Nat.reduceSub, Int.cast_ofNat_Int] at hr
  go_enter Tryd.func65, Tryd.ntmps65
  go_wp2
  go_ret
  exact ⟨rfl, rfl⟩
set_option maxHeartbeats 400000 in
theorem right_17 (x : BitVec 32) (w : World) : Calls Tryd.prog 65 #[.int .u32 x.toNat, .int .i64 17] w fun e w' => e = .returned (.int .u32 (rot 17 x).toNat) ∧ w = w' := by
  have hx := x.isLt
  have e1 : bits .and .u64 (IntKind.u64.wrap (-17)) 31 = 15 := by decide
  have hr := rot_val 17 x
  simp only [Nat.reducePow, Nat.reduceSub, Int.cast_ofNat_Int] at hr
  go_enter Tryd.func65, Tryd.ntmps65
  go_wp2
  go_ret
  exact ⟨rfl, rfl⟩
set_option maxHeartbeats 400000 in
theorem right_18 (x : BitVec 32) (w : World) : Calls Tryd.prog 65 #[.int .u32 x.toNat, .int .i64 18] w fun e w' => e = .returned (.int .u32 (rot 18 x).toNat) ∧ w = w' := by
  have hx := x.isLt
  have e1 : bits .and .u64 (IntKind.u64.wrap (-18)) 31 = 14 := by decide
  have hr := rot_val 18 x
  simp only [Nat.reducePow, Nat.reduceSub, Int.cast_ofNat_Int] at hr
  go_enter Tryd.func65, Tryd.ntmps65
  go_wp2
  go_ret
  exact ⟨rfl, rfl⟩
set_option maxHeartbeats 400000 in
theorem right_19 (x : BitVec 32) (w : World) : Calls Tryd.prog 65 #[.int .u32 x.toNat, .int .i64 19] w fun e w' => e = .returned (.int .u32 (rot 19 x).toNat) ∧ w = w' := by
  have hx := x.isLt
  have e1 : bits .and .u64 (IntKind.u64.wrap (-19)) 31 = 13 := by decide
  have hr := rot_val 19 x
  simp only [Nat.reducePow, Nat.reduceSub, Int.cast_ofNat_Int] at hr
  go_enter Tryd.func65, Tryd.ntmps65
  go_wp2
  go_ret
  exact ⟨rfl, rfl⟩
set_option maxHeartbeats 400000 in
theorem right_22 (x : BitVec 32) (w : World) : Calls Tryd.prog 65 #[.int .u32 x.toNat, .int .i64 22] w fun e w' => e = .returned (.int .u32 (rot 22 x).toNat) ∧ w = w' := by
  have hx := x.isLt
  have e1 : bits .and .u64 (IntKind.u64.wrap (-22)) 31 = 10 := by decide
  have hr := rot_val 22 x
  simp only [Nat.reducePow, Nat.reduceSub, Int.cast_ofNat_Int] at hr
  go_enter Tryd.func65, Tryd.ntmps65
  go_wp2
  go_ret
  exact ⟨rfl, rfl⟩
set_option maxHeartbeats 400000 in
theorem right_25 (x : BitVec 32) (w : World) : Calls Tryd.prog 65 #[.int .u32 x.toNat, .int .i64 25] w fun e w' => e = .returned (.int .u32 (rot 25 x).toNat) ∧ w = w' := by
  have hx := x.isLt
  have e1 : bits .and .u64 (IntKind.u64.wrap (-25)) 31 = 7 := by decide
  have hr := rot_val 25 x
  simp only [Nat.reducePow, Nat.reduceSub, Int.cast_ofNat_Int] at hr
  go_enter Tryd.func65, Tryd.ntmps65
  go_wp2
  go_ret
  exact ⟨rfl, rfl⟩
end Go.Proofs.YtibkhajhmncgkaaDoor
