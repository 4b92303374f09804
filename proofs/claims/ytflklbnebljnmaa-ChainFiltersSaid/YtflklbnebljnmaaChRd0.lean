/- chain's Read of what is no filter's. -/
import Derived.Test.YtflklbnebljnmaaChBytes
namespace Go.Proofs.Ytflklbnebljnmaa
open Go.RowKit

def FilT (w : World) (id : Int) (n : Nat) (tag : Value) (e : Ending) (w' : World) : Prop := e = .returned (.tuple #[.agg #[.int .i64 id, .int .u32 (n : Nat)], tag]) ∧ Below w.heap.size w w'
set_option maxRecDepth 100000 in
set_option maxHeartbeats 400000 in
theorem cread_none (id : Int) (h33 : id ≠ 33) (h3 : id ≠ 3) (hi : isIdB id = false) (A : Option Addr) (n c : Nat) (w : World) :
    Calls Try.prog 14 #[.int .i64 id, .slice A n c] w (FilT w 0 0 (.int .i64 5)) := by
  have HI := Lib.hid (isBranch_any id)
  rw [hi] at HI
  have d33 : (id == 33) = false := by simp [h33]
  have d3 : (id == 3) = false := by simp [h3]
  clear h33 h3 hi
  go_enter Try.func14, Try.ntmps14
  go_wp2_with fail
  refine (HI.out _).mono ?_
  rintro e w' ⟨rfl, rfl⟩
  go_wp2_with fail
  refine (HI.out _).mono ?_
  rintro e w' ⟨rfl, rfl⟩
  go_wp2_with fail
  exact bodyPost_ret (v := .tuple #[.agg #[.int .i64 0, .int .u32 0], .int .i64 5]) (by simp [results, Try.results14, go_sem]) rfl ⟨rfl, ((Below.refl _ _).alloc (Nat.le_refl _) _).alloc (by simp) _⟩
end Go.Proofs.Ytflklbnebljnmaa
