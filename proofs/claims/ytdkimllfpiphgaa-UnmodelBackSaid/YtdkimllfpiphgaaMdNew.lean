/- The model's New, State, Repeats, permitted. -/
import Derived.Test.YtdkimllfpiphgaaMdSym
import Derived.Test.YtdkimllfpiphgaaCoNew
namespace Go.Proofs.Ytdkimllfpiphgaa
open Go.RowKit

theorem state_any {C L lc lp pb st : Nat} {r : R4} {P : Nat → Nat} {w : World} (hM : ModAt w C L lc lp pb st r P) : Calls Try.prog 13 #[PF C] w fun e w' => e = .returned (.int .i64 (st : Nat)) ∧ w = w' := by
  obtain ⟨_, _, _, c3, _⟩ := hM.cells
  clear hM
  go_enter Try.func13, Try.ntmps13
  go_wp2_with fail
  go_ret
  exact ⟨rfl, rfl⟩
set_option maxRecDepth 100000 in
set_option maxHeartbeats 1000000 in
theorem repeats_any {C L lc lp pb st : Nat} {r : R4} {P : Nat → Nat} {w : World} (hM : ModAt w C L lc lp pb st r P) : Calls Try.prog 15 #[PF C] w (Tells r.val w) := by
  obtain ⟨_, _, _, _, c4, c5, c6, c7⟩ := hM.cells
  have hlt := hM.clt
  clear hM
  go_enter Try.func15, Try.ntmps15
  go_wp2_with fail
  refine bodyPost_ret (v := r.val) (by simp [results, Try.results15, go_sem]) rfl ⟨rfl, ?_⟩
  exact (Below.refl _ _).alloc (Nat.le_refl _) _
def permB (lc lp pb : Int) : Bool := decide ((0 ≤ lc ∧ lc ≤ 4) ∧ (0 ≤ lp ∧ lp ≤ 4) ∧ (0 ≤ pb ∧ pb ≤ 4) ∧ lc + lp ≤ 4)
def smallB (n : Int) : Bool := decide (0 ≤ n ∧ n ≤ 4)
theorem small_any (n : Int) (w : World) : Calls Try.prog 32 #[.int .i64 n] w fun e w' => e = .returned (.bool (smallB n)) ∧ w = w' := by
  by_cases h0 : 0 ≤ n
  · have HS : Hid (smallB n = decide (n ≤ 4)) := Lib.hid (by unfold smallB; exact decide_eq_decide.2 (by omega))
    rw [HS.out]
    go_enter Try.func32, Try.ntmps32
    go_wp2_with fail
    go_ret
    exact ⟨rfl, rfl⟩
  · have HS : Hid (smallB n = false) := Lib.hid (by unfold smallB; exact decide_eq_false (by omega))
    rw [HS.out]
    go_enter Try.func32, Try.ntmps32
    go_wp2_with fail
    go_ret
    exact ⟨rfl, rfl⟩
set_option maxRecDepth 100000 in
set_option maxHeartbeats 1000000 in
theorem permitted_any (lc lp pb : Int) (w : World) : Calls Try.prog 25 #[.int .i64 lc, .int .i64 lp, .int .i64 pb] w fun e w' => e = .returned (.bool (permB lc lp pb)) ∧ w = w' := by
  have HS1 := Lib.hid (small_any lc w)
  have HS2 := Lib.hid (small_any lp w)
  have HS3 := Lib.hid (small_any pb w)
  obtain ⟨R, hR⟩ : ∃ R, permB lc lp pb = R := ⟨_, rfl⟩
  rw [hR]
  have HR := Lib.hid hR
  clear hR
  by_cases h1 : 0 ≤ lc ∧ lc ≤ 4
  case neg =>
    have e1 : smallB lc = false := decide_eq_false h1
    rw [e1] at HS1
    have HRv : Hid (R = false) := Lib.hid (by rw [← HR.out]; exact decide_eq_false (by omega))
    clear h1 e1
    go_enter Try.func25, Try.ntmps25
    go_wp2_with fail
    refine HS1.out.mono ?_
    rintro e w1 ⟨rfl, rfl⟩
    go_wp2_with fail
    go_ret
    exact ⟨by rw [HRv.out]; rfl, rfl⟩
  case pos =>
    have e1 : smallB lc = true := decide_eq_true h1
    rw [e1] at HS1
    by_cases h2 : 0 ≤ lp ∧ lp ≤ 4
    case neg =>
      have e2 : smallB lp = false := decide_eq_false h2
      rw [e2] at HS2
      have HRv : Hid (R = false) := Lib.hid (by rw [← HR.out]; exact decide_eq_false (by omega))
      clear h1 e1 h2 e2
      go_enter Try.func25, Try.ntmps25
      go_wp2_with fail
      refine HS1.out.mono ?_
      rintro e w1 ⟨rfl, rfl⟩
      go_wp2_with fail
      refine HS2.out.mono ?_
      rintro e w1 ⟨rfl, rfl⟩
      go_wp2_with fail
      go_ret
      exact ⟨by rw [HRv.out]; rfl, rfl⟩
    case pos =>
      have e2 : smallB lp = true := decide_eq_true h2
      rw [e2] at HS2
      by_cases h3 : 0 ≤ pb ∧ pb ≤ 4
      case neg =>
        have e3 : smallB pb = false := decide_eq_false h3
        rw [e3] at HS3
        have HRv : Hid (R = false) := Lib.hid (by rw [← HR.out]; exact decide_eq_false (by omega))
        clear h1 e1 h2 e2 h3 e3
        go_enter Try.func25, Try.ntmps25
        go_wp2_with fail
        refine HS1.out.mono ?_
        rintro e w1 ⟨rfl, rfl⟩
        go_wp2_with fail
        refine HS2.out.mono ?_
        rintro e w1 ⟨rfl, rfl⟩
        go_wp2_with fail
        refine HS3.out.mono ?_
        rintro e w1 ⟨rfl, rfl⟩
        go_wp2_with fail
        go_ret
        exact ⟨by rw [HRv.out]; rfl, rfl⟩
      case pos =>
        have e3 : smallB pb = true := decide_eq_true h3
        rw [e3] at HS3
        have HRv : Hid (R = decide (lc + lp ≤ 4)) := Lib.hid (by rw [← HR.out]; exact decide_eq_decide.2 (by omega))
        obtain ⟨h1a, h1b⟩ := h1
        obtain ⟨h2a, h2b⟩ := h2
        clear e1 e2 h3 e3
        go_enter Try.func25, Try.ntmps25
        go_wp2_with fail
        refine HS1.out.mono ?_
        rintro e w1 ⟨rfl, rfl⟩
        go_wp2_with fail
        refine HS2.out.mono ?_
        rintro e w1 ⟨rfl, rfl⟩
        go_wp2_with fail
        refine HS3.out.mono ?_
        rintro e w1 ⟨rfl, rfl⟩
        go_wp2_with fail
        go_ret
        exact ⟨by rw [HRv.out]; rfl, rfl⟩
def mdTail (v : Value) : List Value := List.replicate 432 (.int .u16 0) ++ (v :: List.replicate 1620 (.int .u16 0))
theorem cells_coder (a b c : Int) : (((((((Try.zeroCells87.setIfInBounds 0 (Value.int .i64 a)).setIfInBounds 1 (Value.int .i64 b)).setIfInBounds 2 (Value.int .i64 c)).setIfInBounds 4 (Value.int .i64 1)).setIfInBounds 5 (Value.int .i64 1)).setIfInBounds 6 (Value.int .i64 1)).setIfInBounds 7 (Value.int .i64 1)) =
    ([Value.int .i64 a, .int .i64 b, .int .i64 c, .int .i64 0, .int .i64 1, .int .i64 1, .int .i64 1, .int .i64 1] ++ mdTail (.slice none 0 0)).toArray := by
  kernel_rfl
end Go.Proofs.Ytdkimllfpiphgaa
