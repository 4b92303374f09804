/- The walks over the CRC-32 functions: what each returns, in the words of the plain mathematics. -/
import Derived.Test.YtaggkcgeddoogaaDoorRows
import Derived.Test.YtaggkcgeddoogaaDoorCrcMath
import Derived.WalkKit
import Derived.WalkSpells
import Derived.WalkLawsBesides
import Derived.Lib.Hide
import Derived.Deep.QuietTactic
import Derived.BigQuiet
namespace Go.Proofs.YtaggkcgeddoogaaDoor.C3
open Go.RowKit

def P32 : BitVec 32 := 3988292384#32

theorem bx32 (a b : BitVec 32) : bits .xor .u32 (a.toNat : Int) (b.toNat : Int) = ((a ^^^ b).toNat : Int) := by
  rw [u32_xor_nat _ _ a.isLt b.isLt, BitVec.toNat_xor]
theorem bit0 (a : BitVec 32) : bits .and .u32 (a.toNat : Int) 1 = ((a.toNat % 2 : Nat) : Int) := by
  rw [show (1 : Int) = ((1 : Nat) : Int) from rfl, u32_and_nat _ _ a.isLt (by omega), nat_mask1]
theorem lsb0 (a : BitVec 32) : a.getLsbD 0 = decide (a.toNat % 2 = 1) := by
  rw [BitVec.getLsbD, Nat.testBit_zero]
theorem shr1 (a : BitVec 32) : (a.toNat : Int) / (2 : Int) = ((a >>> 1).toNat : Int) := by
  rw [BitVec.toNat_ushiftRight, Nat.shiftRight_eq_div_pow]; simp
theorem s1_yes (x : BitVec 32) (h : (bits .and .u32 (x.toNat : Int) 1 == 1) = true) : bits .xor .u32 ((x.toNat : Int) / 2) 3988292384 = ((Crc.s1 P32 x).toNat : Int) := by
  have h1 : x.getLsbD 0 = true := by
    rw [bit0] at h; rw [lsb0]; simp at h ⊢; omega
  rw [shr1, show (3988292384 : Int) = ((P32.toNat : Nat) : Int) from rfl, bx32]
  unfold Crc.s1; rw [h1]; simp
theorem s1_no (x : BitVec 32) (h : (bits .and .u32 (x.toNat : Int) 1 == 1) = false) : (x.toNat : Int) / 2 = ((Crc.s1 P32 x).toNat : Int) := by
  have h1 : x.getLsbD 0 = false := by
    rw [bit0] at h; rw [lsb0]; simp at h ⊢; omega
  rw [shr1]
  unfold Crc.s1; rw [h1]; simp

set_option maxHeartbeats 400000 in
theorem enterBits_any (r : BitVec 32) (w : World) :
    Calls Tryd.prog 82 #[.int .u32 r.toNat] w fun e w' => e = .returned (.int .u32 (Crc.sn P32 8 r).toNat) ∧ w = w' := by
  go_enter Tryd.func82, Tryd.ntmps82
  go_wp2
  go_loop [0, 4] (fun a i => ∃ (k : Nat), k ≤ 8 ∧ i = .int .i64 k ∧ a = .int .u32 (Crc.sn P32 k r).toNat) (fun _ i => 8 - (intOf i).toNat)
  case atStart => exact ⟨0, by omega, rfl, rfl⟩
  case round =>
    obtain ⟨k, hk, rfl, rfl⟩ := hrel
    by_cases h : k < 8
    · have hs := Lib.hid (Crc.sn_succ' P32 k r)
      generalize Crc.sn P32 k r = x at *
      go_wp2
      · go_round
        case rel => exact ⟨k + 1, by omega, by go_num, by rw [hs.out, ← s1_yes x (by assumption)]⟩
        case measure => simp [intOf]; omega
      · go_round
        case rel => exact ⟨k + 1, by omega, by go_num, by rw [hs.out, ← s1_no x (by assumption)]⟩
        case measure => simp [intOf]; omega
    · obtain rfl : k = 8 := by omega
      go_wp2
      go_ret
      exact ⟨rfl, rfl⟩
end Go.Proofs.YtaggkcgeddoogaaDoor.C3
