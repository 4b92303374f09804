/- The walks over the reference's small functions of layer 14. -/
import Derived.Test.YtflklbnebljnmaaBrEachW
namespace Go.Proofs.Ytflklbnebljnmaa
open Go.RowKit

/-- A number and a place's, or less it, modulo m. -/
def tld (back : Bool) (n p m : Nat) : Nat := if back then (((n : Int) - (p : Int)) % (m : Int)).toNat else (n + p) % m
theorem tld_lt (back : Bool) (n p m : Nat) (hm : 0 < m) : tld back n p m < m := by
  unfold tld
  split
  · have := Int.emod_lt_of_pos ((n : Int) - p) (show (0 : Int) < m by omega)
    omega
  · exact Nat.mod_lt _ hm

theorem tmod_up (x m : Int) (hl : -m < x) : (x + m).tmod m = x % m := by
  rw [Int.tmod_eq_emod_of_nonneg (by omega), Int.add_emod_right]
theorem tmod_twice (x m : Int) (hm : 0 < m) : (x.tmod m + m).tmod m = x % m := by
  have h1 := Int.lt_tmod_of_pos x hm
  rw [tmod_up _ m h1]
  rw [Int.emod_emod_of_dvd_sub_tmod x m]
  where
    Int.emod_emod_of_dvd_sub_tmod (x m : Int) : x.tmod m % m = x % m := by
      have h := Int.tmod_add_mul_tdiv x m
      conv => rhs; rw [← h]
      rw [Int.add_mul_emod_self_left]

set_option maxHeartbeats 400000 in
theorem told_any (back : Bool) (n p m : Nat) (w : World) (hn : n < 4294967296) (hp : p < 4294967296) (hm : 0 < m) (hm2 : m < 4294967296) :
    Calls Try.prog 45 #[.int .i64 (n : Nat), .int .i64 (p : Nat), .bool back, .int .i64 (m : Nat)] w fun e w' => e = .returned (.int .i64 (tld back n p m : Nat)) ∧ w = w' := by
  cases back with
  | false =>
    have hc : ((tld false n p m : Nat) : Int) = ((n : Int) + p) % m := by unfold tld; simp
    have hl := tld_lt false n p m hm
    have hmm := Int.emod_lt_of_pos ((n : Int) + p) (show (0 : Int) < m by omega)
    have hmn := Int.emod_nonneg ((n : Int) + p) (show (m : Int) ≠ 0 by omega)
    have HC := Lib.hid hc
    clear hc
    have hm0 : (m : Int) ≠ 0 := by omega
    go_enter Try.func45, Try.ntmps45
    go_wp2_with fail
    go_ret
    refine ⟨congrArg (fun n : Int => Ending.returned (Value.int .i64 n)) ?_, rfl⟩
    rw [HC.out, Int.add_emod_right, Int.emod_emod]
  | true =>
    have hc : ((tld true n p m : Nat) : Int) = ((n : Int) - p) % m := by
      have hmn := Int.emod_nonneg ((n : Int) - p) (show (m : Int) ≠ 0 by omega)
      unfold tld; simp; omega
    have hl := tld_lt true n p m hm
    have h1 := Int.lt_tmod_of_pos ((n : Int) + -(p : Int)) (show (0 : Int) < m by omega)
    have h2 := Int.tmod_lt_of_pos ((n : Int) + -(p : Int)) (show (0 : Int) < m by omega)
    have HC := Lib.hid hc
    clear hc
    have hm0 : (m : Int) ≠ 0 := by omega
    go_enter Try.func45, Try.ntmps45
    go_wp2_with fail
    go_ret
    refine ⟨congrArg (fun n : Int => Ending.returned (Value.int .i64 n)) ?_, rfl⟩
    have key := tmod_twice ((n : Int) + -(p : Int)) m (by omega)
    rw [Int.tmod_eq_emod_of_nonneg (by omega)] at key
    rw [HC.out, key, Int.sub_eq_add_neg]

/-- A number of m, whose upper half stands for those below 0. -/
def sgn (n m all : Nat) : Nat := if n ≥ m / 2 then n + all - m else n
set_option maxHeartbeats 400000 in
theorem signed_any (n m all : Nat) (w : World) (hn : n < 4294967296) (hm2 : m ≤ all) (ha : all < 4294967296) :
    Calls Try.prog 46 #[.int .i64 (n : Nat), .int .i64 (m : Nat), .int .i64 (all : Nat)] w fun e w' => e = .returned (.int .i64 (sgn n m all : Nat)) ∧ w = w' := by
  by_cases h : n ≥ m / 2
  · have hs : ((sgn n m all : Nat) : Int) = (n : Int) + all - m := by unfold sgn; rw [if_pos h]; omega
    have HC := Lib.hid hs
    clear hs
    go_enter Try.func46, Try.ntmps46
    go_wp2_with fail
    go_ret
    exact ⟨congrArg (fun n : Int => Ending.returned (Value.int .i64 n)) HC.out.symm, rfl⟩
  · have hs : ((sgn n m all : Nat) : Int) = (n : Int) := by unfold sgn; rw [if_neg h]
    have HC := Lib.hid hs
    clear hs
    go_enter Try.func46, Try.ntmps46
    go_wp2_with fail
    go_ret
    exact ⟨congrArg (fun n : Int => Ending.returned (Value.int .i64 n)) HC.out.symm, rfl⟩

/-- What the document makes of a word, filter by filter. -/
def rPpc (back : Bool) (W P : Nat) : Nat := if W / 67108864 = 18 ∧ W % 4 = 1 then 1207959552 + 4 * tld back (W / 4 % 16777216) (P / 4) 16777216 + 1 else W
def rArm (back : Bool) (W P : Nat) : Nat := if W / 16777216 = 235 then 3942645760 + tld back (W % 16777216) (P / 4 + 2) 16777216 else W
def rSparc (back : Bool) (W P : Nat) : Nat := if W / 4194304 = 256 ∨ W / 4194304 = 511 then 1073741824 + sgn (tld back (W % 8388608) (P / 4) 8388608) 8388608 1073741824 else W
def rPageOf (W m : Nat) : Nat := 2147483648 + m % 4 * 536870912 + 268435456 + m / 4 * 32 + W % 32
def rArm64 (back : Bool) (W P : Nat) : Nat :=
  if W / 67108864 = 37 then 2483027968 + tld back (W % 67108864) (P / 4) 67108864
  else if (W / 2147483648 = 1 ∧ W / 16777216 % 32 = 16) ∧ (pageNo W + 131072) % 2097152 < 262144 then rPageOf W (sgn (tld back (pageNo W % 262144) (P / 4096) 262144) 262144 2097152) else W

set_option maxRecDepth 100000 in
set_option maxHeartbeats 1000000 in
theorem turned_5 (back : Bool) (W P : Nat) (w : World) (hW : W < 4294967296) (hP : P < 4294967296) :
    Calls Try.prog 37 #[.int .i64 5, .int .i64 (W : Nat), .int .i64 (P : Nat), .bool back] w fun e w' => e = .returned (.int .i64 (rPpc back W P : Nat)) ∧ w = w' := by
  have hp : rPpc back W P = if W / 67108864 = 18 ∧ W % 4 = 1 then 1207959552 + 4 * tld back (W / 4 % 16777216) (P / 4) 16777216 + 1 else W := rfl
  generalize rPpc back W P = R at *
  by_cases h1 : W / 67108864 = 18
  · by_cases h2 : W % 4 = 1
    · rw [if_pos ⟨h1, h2⟩] at hp
      have HT := Lib.hid (told_any back (W / 4 % 16777216) (P / 4) 16777216 w (by omega) (by omega) (by omega) (by omega))
      have hl := tld_lt back (W / 4 % 16777216) (P / 4) 16777216 (by omega)
      generalize tld back (W / 4 % 16777216) (P / 4) 16777216 = T at *
      have HP := Lib.hid hp
      clear hp
      go_enter Try.func37, Try.ntmps37
      go_wp2_with fail
      refine HT.out.mono ?_
      rintro e w' ⟨rfl, rfl⟩
      go_wp2_with fail
      go_ret
      exact ⟨congrArg (fun n : Int => Ending.returned (Value.int .i64 n)) (by rw [HP.out]; omega), rfl⟩
    · rw [if_neg (fun h => h2 h.2)] at hp
      have hp' := hp.symm
      subst hp'
      go_enter Try.func37, Try.ntmps37
      go_wp2_with fail
      go_ret
      exact ⟨rfl, rfl⟩
  · rw [if_neg (fun h => h1 h.1)] at hp
    have hp' := hp.symm
    subst hp'
    go_enter Try.func37, Try.ntmps37
    go_wp2_with fail
    go_ret
    exact ⟨rfl, rfl⟩

set_option maxRecDepth 100000 in
set_option maxHeartbeats 1000000 in
theorem turned_7 (back : Bool) (W P : Nat) (w : World) (hW : W < 4294967296) (hP : P < 4294967296) :
    Calls Try.prog 37 #[.int .i64 7, .int .i64 (W : Nat), .int .i64 (P : Nat), .bool back] w fun e w' => e = .returned (.int .i64 (rArm back W P : Nat)) ∧ w = w' := by
  have hp : rArm back W P = if W / 16777216 = 235 then 3942645760 + tld back (W % 16777216) (P / 4 + 2) 16777216 else W := rfl
  generalize rArm back W P = R at *
  by_cases h1 : W / 16777216 = 235
  · rw [if_pos h1] at hp
    have HT := Lib.hid (told_any back (W % 16777216) (P / 4 + 2) 16777216 w (by omega) (by omega) (by omega) (by omega))
    have hl := tld_lt back (W % 16777216) (P / 4 + 2) 16777216 (by omega)
    generalize tld back (W % 16777216) (P / 4 + 2) 16777216 = T at *
    have HP := Lib.hid hp
    clear hp
    go_enter Try.func37, Try.ntmps37
    go_wp2_with fail
    refine HT.out.mono ?_
    rintro e w' ⟨rfl, rfl⟩
    go_wp2_with fail
    go_ret
    exact ⟨congrArg (fun n : Int => Ending.returned (Value.int .i64 n)) (by rw [HP.out]; omega), rfl⟩
  · rw [if_neg h1] at hp
    have hp' := hp.symm
    subst hp'
    go_enter Try.func37, Try.ntmps37
    go_wp2_with fail
    go_ret
    exact ⟨rfl, rfl⟩
theorem page_test (N : Nat) : (((N : Int) + 131072) % 2097152 < 262144) ↔ ((N + 131072) % 2097152 < 262144) := by omega
theorem sgn_lt (n m all : Nat) (h : n < m) (h2 : m ≤ all) : sgn n m all < all := by unfold sgn; split <;> omega

set_option maxRecDepth 100000 in
set_option maxHeartbeats 1000000 in
theorem turned_9 (back : Bool) (W P : Nat) (w : World) (hW : W < 4294967296) (hP : P < 4294967296) :
    Calls Try.prog 37 #[.int .i64 9, .int .i64 (W : Nat), .int .i64 (P : Nat), .bool back] w fun e w' => e = .returned (.int .i64 (rSparc back W P : Nat)) ∧ w = w' := by
  have hp : rSparc back W P = if W / 4194304 = 256 ∨ W / 4194304 = 511 then 1073741824 + sgn (tld back (W % 8388608) (P / 4) 8388608) 8388608 1073741824 else W := rfl
  generalize rSparc back W P = R at *
  by_cases h1 : W / 4194304 = 256 ∨ W / 4194304 = 511
  · rw [if_pos h1] at hp
    have HT := Lib.hid (told_any back (W % 8388608) (P / 4) 8388608 w (by omega) (by omega) (by omega) (by omega))
    have hl := tld_lt back (W % 8388608) (P / 4) 8388608 (by omega)
    generalize tld back (W % 8388608) (P / 4) 8388608 = T at *
    have HS := Lib.hid (signed_any T 8388608 1073741824 w (by omega) (by omega) (by omega))
    have hl2 := sgn_lt T 8388608 1073741824 hl (by omega)
    generalize sgn T 8388608 1073741824 = U at *
    have HP := Lib.hid hp
    clear hp
    have h2 : ((W : Int) / 4194304 == 256) = true ∨ (((W : Int) / 4194304 == 256) = false ∧ ((W : Int) / 4194304 == 511) = true) := by
      rcases h1 with h1 | h1
      · have : (W : Int) / 4194304 = 256 := by omega
        simp [this]
      · have : (W : Int) / 4194304 = 511 := by omega
        simp [this]
    clear h1
    rcases h2 with h2 | ⟨h2, h3⟩
    all_goals
      go_enter Try.func37, Try.ntmps37
      go_wp2_with fail
      refine HT.out.mono ?_
      rintro e w' ⟨rfl, rfl⟩
      go_wp2_with fail
      refine HS.out.mono ?_
      rintro e w' ⟨rfl, rfl⟩
      go_wp2_with fail
      go_ret
      exact ⟨congrArg (fun n : Int => Ending.returned (Value.int .i64 n)) (by rw [HP.out]; omega), rfl⟩
  · rw [if_neg h1] at hp
    have hp' := hp.symm
    subst hp'
    have h2 : ((W : Int) / 4194304 == 256) = false := by simp; omega
    have h3 : ((W : Int) / 4194304 == 511) = false := by simp; omega
    clear h1
    go_enter Try.func37, Try.ntmps37
    go_wp2_with fail
    go_ret
    exact ⟨rfl, rfl⟩

set_option maxRecDepth 100000 in
set_option maxHeartbeats 1000000 in
theorem turned_10 (back : Bool) (W P : Nat) (w : World) (hW : W < 4294967296) (hP : P < 4294967296) :
    Calls Try.prog 37 #[.int .i64 10, .int .i64 (W : Nat), .int .i64 (P : Nat), .bool back] w fun e w' => e = .returned (.int .i64 (rArm64 back W P : Nat)) ∧ w = w' := by
  have hp : rArm64 back W P = if W / 67108864 = 37 then 2483027968 + tld back (W % 67108864) (P / 4) 67108864
    else if (W / 2147483648 = 1 ∧ W / 16777216 % 32 = 16) ∧ (pageNo W + 131072) % 2097152 < 262144 then rPageOf W (sgn (tld back (pageNo W % 262144) (P / 4096) 262144) 262144 2097152) else W := rfl
  generalize rArm64 back W P = R at *
  by_cases h1 : W / 67108864 = 37
  · rw [if_pos h1] at hp
    have HT := Lib.hid (told_any back (W % 67108864) (P / 4) 67108864 w (by omega) (by omega) (by omega) (by omega))
    have hl := tld_lt back (W % 67108864) (P / 4) 67108864 (by omega)
    generalize tld back (W % 67108864) (P / 4) 67108864 = T at *
    have HP := Lib.hid hp
    clear hp
    go_enter Try.func37, Try.ntmps37
    go_wp2_with fail
    refine HT.out.mono ?_
    rintro e w' ⟨rfl, rfl⟩
    go_wp2_with fail
    go_ret
    exact ⟨congrArg (fun n : Int => Ending.returned (Value.int .i64 n)) (by rw [HP.out]; omega), rfl⟩
  · rw [if_neg h1] at hp
    have hg : ((W : Int) / 67108864 == 37) = false := by simp; omega
    have hN : (W : Int) / 32 % 524288 * 4 + (W : Int) / 536870912 % 4 = ((pageNo W : Nat) : Int) := by unfold pageNo; omega
    have hNl : pageNo W < 2097152 := by unfold pageNo; omega
    by_cases h2 : W / 2147483648 = 1 ∧ W / 16777216 % 32 = 16
    · by_cases h3 : (pageNo W + 131072) % 2097152 < 262144
      · rw [if_pos ⟨h2, h3⟩] at hp
        have HT := Lib.hid (told_any back (pageNo W % 262144) (P / 4096) 262144 w (by omega) (by omega) (by omega) (by omega))
        have hl := tld_lt back (pageNo W % 262144) (P / 4096) 262144 (by omega)
        generalize tld back (pageNo W % 262144) (P / 4096) 262144 = T at *
        have HS := Lib.hid (signed_any T 262144 2097152 w (by omega) (by omega) (by omega))
        have hl2 := sgn_lt T 262144 2097152 hl (by omega)
        generalize sgn T 262144 2097152 = U at *
        unfold rPageOf at hp
        generalize pageNo W = N at *
        have HP := Lib.hid hp
        have g1 : ((W : Int) / 2147483648 == 1) = true := by simp; omega
        have g2 : ((W : Int) / 16777216 % 32 == 16) = true := by simp; omega
        have g3 : decide (((N : Int) + 131072) % 2097152 < 262144) = true := by rw [decide_eq_true_iff]; exact (page_test N).2 h3
        clear hp h1 h2 h3
        go_enter Try.func37, Try.ntmps37
        go_wp2_with fail
        refine HT.out.mono ?_
        rintro e w' ⟨rfl, rfl⟩
        go_wp2_with fail
        refine HS.out.mono ?_
        rintro e w' ⟨rfl, rfl⟩
        go_wp2_with fail
        go_ret
        exact ⟨congrArg (fun n : Int => Ending.returned (Value.int .i64 n)) (by rw [HP.out]; omega), rfl⟩
      · rw [if_neg (fun h => h3 h.2)] at hp
        have hp' := hp.symm
        subst hp'
        generalize pageNo W = N at *
        have g1 : ((W : Int) / 2147483648 == 1) = true := by simp; omega
        have g2 : ((W : Int) / 16777216 % 32 == 16) = true := by simp; omega
        have g3 : decide (((N : Int) + 131072) % 2097152 < 262144) = false := by rw [decide_eq_false_iff_not]; exact fun h => h3 ((page_test N).1 h)
        clear h1 h2 h3
        go_enter Try.func37, Try.ntmps37
        go_wp2_with fail
        go_ret
        exact ⟨rfl, rfl⟩
    · rw [if_neg (fun h => h2 h.1)] at hp
      have hp' := hp.symm
      subst hp'
      generalize pageNo W = N at *
      have g1 : ((W : Int) / 2147483648 == 1) = false ∨ (((W : Int) / 2147483648 == 1) = true ∧ ((W : Int) / 16777216 % 32 == 16) = false) := by
        by_cases h : W / 2147483648 = 1
        · right; simp; omega
        · left; simp; omega
      clear h1 h2
      rcases g1 with g1 | ⟨g1, g2⟩
      all_goals
        go_enter Try.func37, Try.ntmps37
        go_wp2_with fail
        go_ret
        exact ⟨rfl, rfl⟩
end Go.Proofs.Ytflklbnebljnmaa
