/- The walks over branch's page and the fourth filter. -/
import Derived.Test.YtflklbnebljnmaaBrFil
namespace Go.Proofs.Ytflklbnebljnmaa
open Go.RowKit

/-- A page's number in a word. -/
def pageNo (W : Nat) : Nat := W / 32 % 524288 * 4 + W / 536870912 % 4
/-- The word with another page's number. -/
def pageOf (W E : Nat) : Nat := mix 5 24 (mix 29 31 W (E * 536870912 % 4294967296)) (E / 4 * 32 % 4294967296)
/-- The second kind of the fourth filter. -/
def page (back : Bool) (W P : Nat) : Nat := if (W / 2147483648 = 1 ∧ W / 16777216 % 32 = 16) ∧ (pageNo W + 131072) % 2097152 < 262144 then pageOf W (ext 262144 (comb back (pageNo W) (P / 4096))) else W
theorem mix_lt (lo hi a b : Nat) (h : lo ≤ hi) (h32 : hi ≤ 32) (ha : a < 4294967296) : mix lo hi a b < 4294967296 := by
  rw [← within_bits lo hi a b h h32 ha]; exact BitVec.isLt _

set_option maxRecDepth 100000 in
set_option maxHeartbeats 1000000 in
theorem page_any (back : Bool) (W P : Nat) (w : World) (hW : W < 4294967296) (hP : P < 4294967296) :
    Calls Try.prog 56 #[.int .u32 (W : Nat), .int .u32 (P : Nat), .func (.func (litOf back)) #[] #[]] w fun e w' => e = .returned (.int .u32 (page back W P : Nat)) ∧ w = w' := by
  have e1 : bits .and .u32 ((W : Int) / 32) 524287 = ((W / 32 % 524288 : Nat) : Int) := and_low (W / 32) 19 524287 (by omega) rfl (by omega)
  have e2 : bits .and .u32 ((W : Int) / 536870912) 3 = ((W / 536870912 % 4 : Nat) : Int) := and_low (W / 536870912) 2 3 (by omega) rfl (by omega)
  have e3 : bits .or .u32 (((W / 32 % 524288 : Nat) : Int) * 4) ((W / 536870912 % 4 : Nat) : Int) = ((pageNo W : Nat) : Int) := by
    have := u32_or_nat (W / 32 % 524288 * 4) (W / 536870912 % 4) (by omega) (by omega)
    rw [Nat.or_comm, or_up _ _ 2 (by omega)] at this
    rw [show (((W / 32 % 524288 : Nat) : Int) * 4) = ((W / 32 % 524288 * 4 : Nat) : Int) from rfl, this]
    unfold pageNo; omega
  have hN : pageNo W < 2097152 := by unfold pageNo; omega
  have hA : W / 32 % 524288 < 524288 := by omega
  have e4 := and_9f W hW
  have hG : W / 2147483648 * 2147483648 + W / 16777216 % 32 * 16777216 = 2415919104 ↔ (W / 2147483648 = 1 ∧ W / 16777216 % 32 = 16) := by omega
  have hp : page back W P = if (W / 2147483648 = 1 ∧ W / 16777216 % 32 = 16) ∧ (pageNo W + 131072) % 2097152 < 262144 then pageOf W (ext 262144 (comb back (pageNo W) (P / 4096))) else W := rfl
  simp only [← hG] at hp
  clear hG
  generalize W / 2147483648 * 2147483648 + W / 16777216 % 32 * 16777216 = G at *
  have HC := Lib.hid (comb_any back (pageNo W) (P / 4096) w (by omega) (by omega))
  have hcl := comb_lt back (pageNo W) (P / 4096)
  generalize page back W P = R at *
  generalize comb back (pageNo W) (P / 4096) = C at *
  generalize pageNo W = N at *
  generalize W / 32 % 524288 = A at *
  generalize W / 536870912 % 4 = B at *
  by_cases h1 : G = 2415919104
  · by_cases h2 : (N + 131072) % 2097152 < 262144
    · rw [if_pos ⟨h1, h2⟩] at hp
      have g1 : ((G : Int) != 2415919104) = false := by simp; omega
      have g2 : decide (262144 ≤ ((N : Int) + 131072) % 2097152) = false := by simp; omega
      have HE := Lib.hid (extend_18 C w)
      have hel := ext_lt 262144 C (by omega) (by omega)
      generalize ext 262144 C = E at *
      unfold pageOf at hp
      have HM := Lib.hid (within_mix 29 31 W (E * 536870912 % 4294967296) 1610612736 w (by omega) (by omega) hW (by omega) rfl (by omega))
      have hml := mix_lt 29 31 W (E * 536870912 % 4294967296) (by omega) (by omega) hW
      generalize mix 29 31 W (E * 536870912 % 4294967296) = M at *
      have HN := Lib.hid (within_mix 5 24 M (E / 4 * 32 % 4294967296) 16777184 w (by omega) (by omega) hml (by omega) rfl (by omega))
      rw [← hp] at HN
      clear hp h1 h2
      cases back <;> simp only [lit_on, lit_back] at HC ⊢
      all_goals
        go_enter Try.func56, Try.ntmps56
        go_wp2_with fail
        refine HC.out.mono ?_
        rintro e w' ⟨rfl, rfl⟩
        go_wp2_with fail
        refine HE.out.mono ?_
        rintro e w' ⟨rfl, rfl⟩
        go_wp2_with fail
        refine HM.out.mono ?_
        rintro e w' ⟨rfl, rfl⟩
        go_wp2_with fail
        refine HN.out.mono ?_
        rintro e w' ⟨rfl, rfl⟩
        go_wp2_with fail
        go_ret
        exact ⟨rfl, rfl⟩
    · rw [if_neg (fun h => h2 h.2)] at hp
      have hp' := hp.symm
      subst hp'
      have g1 : ((G : Int) != 2415919104) = false := by simp; omega
      have g2 : decide (262144 ≤ ((N : Int) + 131072) % 2097152) = true := by simp; omega
      clear h1 h2
      go_enter Try.func56, Try.ntmps56
      go_wp2_with fail
      go_ret
      exact ⟨rfl, rfl⟩
  · rw [if_neg (fun h => h1 h.1)] at hp
    have hp' := hp.symm
    subst hp'
    have g1 : ((G : Int) != 2415919104) = true := by simp; omega
    clear h1
    go_enter Try.func56, Try.ntmps56
    go_wp2_with fail
    go_ret
    exact ⟨rfl, rfl⟩

/-- The fourth filter. -/
def arm64 (back : Bool) (W P : Nat) : Nat := if W / 67108864 = 37 then mix 0 26 W (comb back W (P / 4)) else page back W P
set_option maxHeartbeats 1000000 in
theorem arm64_any (back : Bool) (W P : Nat) (w : World) (hW : W < 4294967296) (hP : P < 4294967296) :
    Calls Try.prog 55 #[.int .u32 (W : Nat), .int .u32 (P : Nat), .func (.func (litOf back)) #[] #[]] w fun e w' => e = .returned (.int .u32 (arm64 back W P : Nat)) ∧ w = w' := by
  have HC := Lib.hid (comb_any back W (P / 4) w (by omega) (by omega))
  have hcl := comb_lt back W (P / 4)
  have hp : arm64 back W P = if W / 67108864 = 37 then mix 0 26 W (comb back W (P / 4)) else page back W P := rfl
  have HP := Lib.hid (page_any back W P w hW hP)
  generalize arm64 back W P = R at *
  generalize comb back W (P / 4) = C at *
  by_cases h1 : W / 67108864 = 37
  · rw [if_pos h1] at hp
    have HM := Lib.hid (within_mix 0 26 W C 67108863 w (by omega) (by omega) hW (by omega) rfl (by omega))
    rw [← hp] at HM
    clear hp
    cases back <;> simp only [lit_on, lit_back] at HC ⊢
    all_goals
      go_enter Try.func55, Try.ntmps55
      go_wp2_with fail
      refine HC.out.mono ?_
      rintro e w' ⟨rfl, rfl⟩
      go_wp2_with fail
      refine HM.out.mono ?_
      rintro e w' ⟨rfl, rfl⟩
      go_wp2_with fail
      go_ret
      exact ⟨rfl, rfl⟩
  · rw [if_neg h1] at hp
    rw [← hp] at HP
    clear hp
    go_enter Try.func55, Try.ntmps55
    go_wp2_with fail
    refine HP.out.mono ?_
    rintro e w' ⟨rfl, rfl⟩
    go_wp2_with fail
    go_ret
    exact ⟨rfl, rfl⟩
end Go.Proofs.Ytflklbnebljnmaa
