/- The walks over branch's small literals. -/
import Derived.Test.YtflklbnebljnmaaBrPut
namespace Go.Proofs.Ytflklbnebljnmaa
open Go.RowKit

/-- What a group's number and its place's come to, told on or back. -/
def comb (back : Bool) (n p : Nat) : Nat := if back then (n + 4294967296 - p) % 4294967296 else (n + p) % 4294967296
def litOf (back : Bool) : Nat := if back then 44 else 42

set_option maxHeartbeats 400000 in
theorem on_any (n p : Nat) (w : World) : Calls Try.prog 42 #[.int .u32 (n : Nat), .int .u32 (p : Nat)] w fun e w' => e = .returned (.int .u32 (comb false n p : Nat)) ∧ w = w' := by
  have hc : ((comb false n p : Nat) : Int) = ((n : Int) + (p : Int)) % 4294967296 := by unfold comb; simp
  have HC := Lib.hid hc
  clear hc
  go_enter Try.func42, Try.ntmps42
  go_wp2_with fail
  go_ret
  exact ⟨congrArg (fun n : Int => Ending.returned (Value.int .u32 n)) HC.out.symm, rfl⟩
set_option maxHeartbeats 400000 in
theorem back_any (n p : Nat) (w : World) (hn : n < 4294967296) (hp : p < 4294967296) : Calls Try.prog 44 #[.int .u32 (n : Nat), .int .u32 (p : Nat)] w fun e w' => e = .returned (.int .u32 (comb true n p : Nat)) ∧ w = w' := by
  have hc : ((comb true n p : Nat) : Int) = ((n : Int) - (p : Int)) % 4294967296 := by unfold comb; simp; omega
  have HC := Lib.hid hc
  clear hc
  go_enter Try.func44, Try.ntmps44
  go_wp2_with fail
  go_ret
  exact ⟨congrArg (fun n : Int => Ending.returned (Value.int .u32 n)) HC.out.symm, rfl⟩
theorem comb_any (back : Bool) (n p : Nat) (w : World) (hn : n < 4294967296) (hp : p < 4294967296) : Calls Try.prog (litOf back) #[.int .u32 (n : Nat), .int .u32 (p : Nat)] w fun e w' => e = .returned (.int .u32 (comb back n p : Nat)) ∧ w = w' := by
  cases back
  · exact on_any n p w
  · exact back_any n p w hn hp
end Go.Proofs.Ytflklbnebljnmaa
