/- The walks over the four branch filters. -/
import Derived.Test.YtflklbnebljnmaaBrExt
namespace Go.Proofs.Ytflklbnebljnmaa
open Go.RowKit

theorem comb_lt (back : Bool) (n p : Nat) : comb back n p < 4294967296 := by unfold comb; split <;> omega
theorem lit_on : litOf false = 42 := rfl
theorem lit_back : litOf true = 44 := rfl

/-- What the first filter makes of a word. -/
def ppc (back : Bool) (W P : Nat) : Nat := if W / 67108864 = 18 ∧ W % 4 = 1 then mix 2 26 W (comb back (W / 4) (P / 4) * 4 % 4294967296) else W

set_option maxHeartbeats 1000000 in
theorem ppc_any (back : Bool) (W P : Nat) (w : World) (hW : W < 4294967296) (hP : P < 4294967296) :
    Calls Try.prog 50 #[.int .u32 (W : Nat), .int .u32 (P : Nat), .func (.func (litOf back)) #[] #[]] w fun e w' => e = .returned (.int .u32 (ppc back W P : Nat)) ∧ w = w' := by
  have hand : bits .and .u32 (W : Int) 3 = ((W % 4 : Nat) : Int) := and_low W 2 3 hW rfl (by omega)
  have HC := Lib.hid (comb_any back (W / 4) (P / 4) w (by omega) (by omega))
  have hcl := comb_lt back (W / 4) (P / 4)
  have hp : ppc back W P = if W / 67108864 = 18 ∧ W % 4 = 1 then mix 2 26 W (comb back (W / 4) (P / 4) * 4 % 4294967296) else W := rfl
  generalize ppc back W P = R at *
  generalize comb back (W / 4) (P / 4) = C at *
  by_cases h1 : W / 67108864 = 18
  · by_cases h2 : W % 4 = 1
    · rw [if_pos ⟨h1, h2⟩] at hp
      have HM := Lib.hid (within_mix 2 26 W (C * 4 % 4294967296) 67108860 w (by omega) (by omega) hW (by omega) rfl (by omega))
      rw [← hp] at HM
      clear hp
      cases back <;> simp only [lit_on, lit_back] at HC ⊢
      all_goals
        go_enter Try.func50, Try.ntmps50
        go_wp2_with fail
        refine HC.out.mono ?_
        rintro e w' ⟨rfl, rfl⟩
        go_wp2_with fail
        refine HM.out.mono ?_
        rintro e w' ⟨rfl, rfl⟩
        go_wp2_with fail
        go_ret
        exact ⟨rfl, rfl⟩
    · rw [if_neg (fun h => h2 h.2)] at hp
      subst hp
      go_enter Try.func50, Try.ntmps50
      go_wp2_with fail
      go_ret
      exact ⟨rfl, rfl⟩
  · rw [if_neg (fun h => h1 h.1)] at hp
    subst hp
    go_enter Try.func50, Try.ntmps50
    go_wp2_with fail
    go_ret
    exact ⟨rfl, rfl⟩

/-- The second filter. -/
def arm (back : Bool) (W P : Nat) : Nat := if W / 16777216 = 235 then mix 0 24 W (comb back W (P / 4 + 2)) else W

set_option maxHeartbeats 1000000 in
theorem arm_any (back : Bool) (W P : Nat) (w : World) (hW : W < 4294967296) (hP : P < 4294967296) :
    Calls Try.prog 52 #[.int .u32 (W : Nat), .int .u32 (P : Nat), .func (.func (litOf back)) #[] #[]] w fun e w' => e = .returned (.int .u32 (arm back W P : Nat)) ∧ w = w' := by
  have HC := Lib.hid (comb_any back W (P / 4 + 2) w (by omega) (by omega))
  have hcl := comb_lt back W (P / 4 + 2)
  have hp : arm back W P = if W / 16777216 = 235 then mix 0 24 W (comb back W (P / 4 + 2)) else W := rfl
  generalize arm back W P = R at *
  generalize comb back W (P / 4 + 2) = C at *
  by_cases h1 : W / 16777216 = 235
  · rw [if_pos h1] at hp
    have HM := Lib.hid (within_mix 0 24 W C 16777215 w (by omega) (by omega) hW (by omega) rfl (by omega))
    rw [← hp] at HM
    clear hp
    cases back <;> simp only [lit_on, lit_back] at HC ⊢
    all_goals
      go_enter Try.func52, Try.ntmps52
      go_wp2_with fail
      refine HC.out.mono ?_
      rintro e w' ⟨rfl, rfl⟩
      go_wp2_with fail
      refine HM.out.mono ?_
      rintro e w' ⟨rfl, rfl⟩
      go_wp2_with fail
      go_ret
      exact ⟨rfl, rfl⟩
  · rw [if_neg h1] at hp
    subst hp
    go_enter Try.func52, Try.ntmps52
    go_wp2_with fail
    go_ret
    exact ⟨rfl, rfl⟩

/-- The third filter. -/
def sparc (back : Bool) (W P : Nat) : Nat := if W / 4194304 = 256 ∨ W / 4194304 = 511 then mix 0 30 1073741824 (ext 8388608 (comb back W (P / 4))) else W
theorem ext_lt (m x : Nat) (h : 0 < m) (h2 : m ≤ 4294967296) : ext m x < 4294967296 := by unfold ext; have := Nat.mod_lt x h; split <;> omega

set_option maxHeartbeats 1000000 in
theorem sparc_any (back : Bool) (W P : Nat) (w : World) (hW : W < 4294967296) (hP : P < 4294967296) :
    Calls Try.prog 53 #[.int .u32 (W : Nat), .int .u32 (P : Nat), .func (.func (litOf back)) #[] #[]] w fun e w' => e = .returned (.int .u32 (sparc back W P : Nat)) ∧ w = w' := by
  have HC := Lib.hid (comb_any back W (P / 4) w (by omega) (by omega))
  have hcl := comb_lt back W (P / 4)
  have hp : sparc back W P = if W / 4194304 = 256 ∨ W / 4194304 = 511 then mix 0 30 1073741824 (ext 8388608 (comb back W (P / 4))) else W := rfl
  generalize sparc back W P = R at *
  generalize comb back W (P / 4) = C at *
  by_cases h1 : W / 4194304 = 256 ∨ W / 4194304 = 511
  · rw [if_pos h1] at hp
    have HE := Lib.hid (extend_23 C w)
    have hel := ext_lt 8388608 C (by omega) (by omega)
    generalize ext 8388608 C = E at *
    have HM := Lib.hid (within_mix 0 30 1073741824 E 1073741823 w (by omega) (by omega) (by omega) (by omega) rfl (by omega))
    rw [← hp] at HM
    clear hp
    have h2 : ((W : Int) / 4194304 != 256) = false ∨ (((W : Int) / 4194304 != 256) = true ∧ ((W : Int) / 4194304 != 511) = false) := by
      rcases h1 with h1 | h1
      · have : (W : Int) / 4194304 = 256 := by omega
        simp [this]
      · have : (W : Int) / 4194304 = 511 := by omega
        simp [this]
    clear h1
    rcases h2 with h2 | ⟨h2, h3⟩
    all_goals
      cases back <;> simp only [lit_on, lit_back] at HC ⊢
      all_goals
        go_enter Try.func53, Try.ntmps53
        go_wp2_with fail
        refine HC.out.mono ?_
        rintro e w' ⟨rfl, rfl⟩
        go_wp2_with fail
        refine HE.out.mono ?_
        rintro e w' ⟨rfl, rfl⟩
        go_wp2_with fail
        refine HM.out.mono ?_
        rintro e w' ⟨rfl, rfl⟩
        go_wp2_with fail
        go_ret
        exact ⟨rfl, rfl⟩
  · rw [if_neg h1] at hp
    have hp' := hp.symm
    subst hp'
    have h2 : ((W : Int) / 4194304 != 256) = true := by simp; omega
    have h3 : ((W : Int) / 4194304 != 511) = true := by simp; omega
    clear h1
    go_enter Try.func53, Try.ntmps53
    go_wp2_with fail
    go_ret
    exact ⟨rfl, rfl⟩
end Go.Proofs.Ytflklbnebljnmaa
