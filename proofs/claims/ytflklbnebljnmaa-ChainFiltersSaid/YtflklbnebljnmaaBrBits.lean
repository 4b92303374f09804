/- Small functions of the branch filters. -/
import Derived.Test.YtflklbnebljnmaaBrMap
namespace Go.Proofs.Ytflklbnebljnmaa
open Go.RowKit

theorem look_none (id : Int) (h5 : id ≠ 5) (h7 : id ≠ 7) (h9 : id ≠ 9) (h10 : id ≠ 10) : Instr.findNow (.int .i64) (.int .i64 id) ents.toList 0 = some none := by
  have e5 : (id == 5) = false := by simp [h5]
  have e7 : (id == 7) = false := by simp [h7]
  have e9 : (id == 9) = false := by simp [h9]
  have e10 : (id == 10) = false := by simp [h10]
  simp [ents, Instr.findNow, Instr.sameNow, e5, e7, e9, e10]
theorem bv_and (a b : BitVec 32) : bits .and .u32 (a.toNat : Int) (b.toNat : Int) = ((a &&& b).toNat : Int) := by rw [u32_and_nat _ _ a.isLt b.isLt, BitVec.toNat_and]
theorem bv_or (a b : BitVec 32) : bits .or .u32 (a.toNat : Int) (b.toNat : Int) = ((a ||| b).toNat : Int) := by rw [u32_or_nat _ _ a.isLt b.isLt, BitVec.toNat_or]
theorem bv_andNot (a b : BitVec 32) : bits .andNot .u32 (a.toNat : Int) (b.toNat : Int) = ((a &&& ~~~b).toNat : Int) := by
  rw [u32_andNot_nat _ _ a.isLt b.isLt, BitVec.toNat_and, BitVec.toNat_not]

set_option maxHeartbeats 400000 in
theorem low_any (id : Int) (w : World) : Calls Try.prog 57 #[.int .i64 id] w fun e w' => e = .returned (.bool (id == 7 || id == 10)) ∧ w = w' := by
  by_cases h7 : id = 7
  · subst h7
    go_enter Try.func57, Try.ntmps57
    go_wp2_with fail
    go_ret
    exact ⟨rfl, rfl⟩
  · have h7b : (id == 7) = false := by simp [h7]
    rw [h7b, Bool.false_or]
    clear h7
    go_enter Try.func57, Try.ntmps57
    go_wp2_with fail
    go_ret
    exact ⟨rfl, rfl⟩

set_option maxHeartbeats 400000 in
theorem within_any (a b m : BitVec 32) (w : World) : Calls Try.prog 51 #[.int .u32 a.toNat, .int .u32 b.toNat, .int .u32 m.toNat] w fun e w' => e = .returned (.int .u32 ((a &&& ~~~m) ||| (b &&& m)).toNat) ∧ w = w' := by
  go_enter Try.func51, Try.ntmps51
  go_wp2_with fail
  go_ret
  exact ⟨congrArg (fun n : Int => Ending.returned (Value.int .u32 n)) (by rw [bv_andNot, bv_and, bv_or]), rfl⟩
end Go.Proofs.Ytflklbnebljnmaa
