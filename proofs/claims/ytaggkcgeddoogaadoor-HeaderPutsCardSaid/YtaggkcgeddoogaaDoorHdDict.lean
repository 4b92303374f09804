/- Codes of sizes: chain's Dict and Code, and the reference's. -/
import Derived.Test.YtaggkcgeddoogaaDoorHdFil
namespace Go.Proofs.YtaggkcgeddoogaaDoor
open Go.RowKit

/-- What a code stands for; 0: it is no code. -/
def dictN (k : Nat) : Nat := if 40 < k then 0 else if k = 40 then 4294967295 else (2 + k % 2) * 2 ^ (11 + k / 2)
theorem dictN_lt (k : Nat) : dictN k < 4294967296 := by
  by_cases h : k ≤ 40
  · have : ∀ k, k < 41 → dictN k < 4294967296 := by decide
    exact this k (by omega)
  · unfold dictN; rw [if_pos (by omega)]; omega
theorem dictN_mono (i j : Nat) (h : i < j) (hj : j ≤ 40) : dictN i < dictN j := by
  have : ∀ j, j < 41 → ∀ i, i < j → dictN i < dictN j := by decide
  exact this j (by omega) i h
theorem dictN_top : dictN 40 = 4294967295 := by decide
/-- The least code that stands for so much. -/
def codeN (d : Nat) : Nat := ((List.range 41).find? fun i => decide (d ≤ dictN i)).getD 40
theorem codeN_eq (d k : Nat) (hk : k ≤ 40) (h1 : d ≤ dictN k) (h2 : ∀ j, j < k → dictN j < d) : codeN d = k := by
  have : (List.range 41).find? (fun i => decide (d ≤ dictN i)) = some k := by
    rw [List.find?_range_eq_some]
    refine ⟨by simpa using h1, by simp; omega, fun j hj => by simpa using h2 j hj⟩
  unfold codeN; rw [this]; rfl
theorem codeN_le (d : Nat) : codeN d ≤ 40 := by
  unfold codeN
  cases h : (List.range 41).find? (fun i => decide (d ≤ dictN i)) with
  | none => simp
  | some k => have := List.mem_of_find?_eq_some h; simp at this ⊢; omega
def Low (d k : Nat) : Prop := ∀ j, j < k → dictN j < d

set_option maxRecDepth 100000 in
set_option maxHeartbeats 4000000 in
theorem dict_small (k : Nat) (hk : k ≤ 40) (w : World) : Calls Tryd.prog 33 #[.int .i64 (k : Nat)] w fun e w' => e = .returned (.int .u32 (dictN k : Nat)) ∧ w = w' := by
  have hc : k = 0 ∨ k = 1 ∨ k = 2 ∨ k = 3 ∨ k = 4 ∨ k = 5 ∨ k = 6 ∨ k = 7 ∨ k = 8 ∨ k = 9 ∨ k = 10 ∨ k = 11 ∨ k = 12 ∨ k = 13 ∨ k = 14 ∨ k = 15 ∨ k = 16 ∨ k = 17 ∨ k = 18 ∨ k = 19 ∨ k = 20 ∨ k = 21 ∨ k = 22 ∨ k = 23 ∨ k = 24 ∨ k = 25 ∨ k = 26 ∨ k = 27 ∨ k = 28 ∨ k = 29 ∨ k = 30 ∨ k = 31 ∨ k = 32 ∨ k = 33 ∨ k = 34 ∨ k = 35 ∨ k = 36 ∨ k = 37 ∨ k = 38 ∨ k = 39 ∨ k = 40 := by omega
  rcases hc with rfl | rfl | rfl | rfl | rfl | rfl | rfl | rfl | rfl | rfl | rfl | rfl | rfl | rfl | rfl | rfl | rfl | rfl | rfl | rfl | rfl | rfl | rfl | rfl | rfl | rfl | rfl | rfl | rfl | rfl | rfl | rfl | rfl | rfl | rfl | rfl | rfl | rfl | rfl | rfl | rfl
  all_goals
    go_enter Tryd.func33, Tryd.ntmps33
    go_wp2_with fail
    go_ret
    exact ⟨congrArg (fun n : Int => Ending.returned (.int .u32 n)) (by decide), rfl⟩
set_option maxHeartbeats 400000 in
theorem dict_none (a : Int) (h : a < 0 ∨ 40 < a) (w : World) : Calls Tryd.prog 33 #[.int .i64 a] w fun e w' => e = .returned (.int .u32 0) ∧ w = w' := by
  rcases h with h | h
  · go_enter Tryd.func33, Tryd.ntmps33
    go_wp2_with fail
    go_ret
    exact ⟨rfl, rfl⟩
  · have h' : ¬ a < 0 := by omega
    go_enter Tryd.func33, Tryd.ntmps33
    go_wp2_with fail
    go_ret
    exact ⟨rfl, rfl⟩
theorem dict_any (a : Int) (w : World) : Calls Tryd.prog 33 #[.int .i64 a] w fun e w' => e = .returned (.int .u32 ((if a < 0 then 0 else dictN a.toNat : Nat) : Int)) ∧ w = w' := by
  by_cases h : a < 0 ∨ 40 < a
  · refine (dict_none a h w).mono ?_
    rintro e w' ⟨rfl, rfl⟩
    refine ⟨?_, rfl⟩
    rcases h with h | h
    · rw [if_pos h]; rfl
    · rw [if_neg (by omega)]; unfold dictN; rw [if_pos (by omega)]; rfl
  · obtain ⟨k, rfl⟩ : ∃ k : Nat, a = (k : Int) := ⟨a.toNat, by omega⟩
    rw [if_neg (by omega), Int.toNat_natCast]
    exact dict_small k (by omega) w

theorem pow_le (i : Nat) (h : i ≤ 30) : 2 ^ i ≤ 1073741824 := by
  have := Nat.pow_le_pow_right (n := 2) (by omega) h
  simpa using this
def rDict (k i : Nat) : Nat := (2 + k % 2) * 2 ^ i
theorem rDict_succ (k i : Nat) : rDict k (i + 1) = 2 * rDict k i := by unfold rDict; rw [Nat.pow_succ, ← Nat.mul_assoc, Nat.mul_comm]
theorem rDict_lt (k i : Nat) (h : i ≤ 30) : rDict k i ≤ 3221225472 := by
  unfold rDict
  have h1 := pow_le i h
  have h2 : 2 + k % 2 ≤ 3 := by omega
  calc (2 + k % 2) * 2 ^ i ≤ 3 * 1073741824 := Nat.mul_le_mul h2 h1
    _ = 3221225472 := rfl
theorem rDict_zero (k : Nat) : rDict k 0 = 2 + k % 2 := by simp [rDict]
set_option maxHeartbeats 400000 in
theorem rdict_small (k : Nat) (hk : k < 40) (w : World) : Calls Tryd.prog 38 #[.int .i64 (k : Nat)] w fun e w' => e = .returned (.int .u64 (dictN k : Nat)) ∧ w = w' := by
  have hd : dictN k = rDict k (11 + k / 2) := by unfold dictN rDict; rw [if_neg (by omega), if_neg (by omega)]
  have HD := Lib.hid hd
  have HZ := Lib.hid (rDict_zero k)
  clear hd
  generalize dictN k = D at *
  have hk40 : ((k : Int) == 40) = false := by simp; omega
  go_enter Tryd.func38, Tryd.ntmps38
  go_wp2_with fail
  clear hk40
  go_loop [3, 4] (fun n i => ∃ j : Nat, j ≤ 11 + k / 2 ∧ i = .int .i64 j ∧ n = .int .u64 (rDict k j : Nat)) (fun _ i => 11 + k / 2 - (intOf i).toNat)
  case atStart => exact ⟨0, by omega, rfl, by rw [HZ.out]; congr 1⟩
  case round =>
    obtain ⟨j, hj, rfl, rfl⟩ := hrel
    by_cases hlt : j < 11 + k / 2
    · have hle := rDict_lt k j (by omega)
      have HS := Lib.hid (rDict_succ k j)
      have hlt' : (j : Int) < (k : Int) / 2 + 11 := by omega
      generalize rDict k j = n at *
      go_wp2_with fail
      go_round
      case rel => exact ⟨j + 1, by omega, by go_num, by rw [HS.out]; congr 1⟩
      case measure => simp [intOf]; omega
    · have hlt' : ¬ (j : Int) < (k : Int) / 2 + 11 := by omega
      obtain rfl : j = 11 + k / 2 := by omega
      rw [← HD.out]
      go_wp2_with fail
      go_ret
      exact ⟨rfl, rfl⟩
set_option maxHeartbeats 400000 in
theorem rdict_top (w : World) : Calls Tryd.prog 38 #[.int .i64 40] w fun e w' => e = .returned (.int .u64 4294967295) ∧ w = w' := by
  go_enter Tryd.func38, Tryd.ntmps38
  go_wp2_with fail
  go_ret
  exact ⟨rfl, rfl⟩
set_option maxHeartbeats 400000 in
theorem rdict_none (a : Int) (h : a < 0 ∨ 40 < a) (w : World) : Calls Tryd.prog 38 #[.int .i64 a] w fun e w' => e = .returned (.int .u64 0) ∧ w = w' := by
  rcases h with h | h
  · go_enter Tryd.func38, Tryd.ntmps38
    go_wp2_with fail
    go_ret
    exact ⟨rfl, rfl⟩
  · have h' : ¬ a < 0 := by omega
    go_enter Tryd.func38, Tryd.ntmps38
    go_wp2_with fail
    go_ret
    exact ⟨rfl, rfl⟩
theorem rdict_any (a : Int) (w : World) : Calls Tryd.prog 38 #[.int .i64 a] w fun e w' => e = .returned (.int .u64 ((if a < 0 then 0 else dictN a.toNat : Nat) : Int)) ∧ w = w' := by
  by_cases h : a < 0 ∨ 40 < a
  · refine (rdict_none a h w).mono ?_
    rintro e w' ⟨rfl, rfl⟩
    refine ⟨?_, rfl⟩
    rcases h with h | h
    · rw [if_pos h]; rfl
    · rw [if_neg (by omega)]; unfold dictN; rw [if_pos (by omega)]; rfl
  · obtain ⟨k, rfl⟩ : ∃ k : Nat, a = (k : Int) := ⟨a.toNat, by omega⟩
    rw [if_neg (by omega), Int.toNat_natCast]
    by_cases h4 : k = 40
    · subst h4; exact rdict_top w
    · exact rdict_small k (by omega) w
theorem rdict_nat (k : Nat) (w : World) : Calls Tryd.prog 38 #[.int .i64 (k : Nat)] w fun e w' => e = .returned (.int .u64 (dictN k : Nat)) ∧ w = w' := by
  have := rdict_any (k : Int) w
  rwa [if_neg (by omega), Int.toNat_natCast] at this

set_option maxHeartbeats 400000 in
theorem code_any (d : Nat) (hd : d < 4294967296) (w : World) : Calls Tryd.prog 34 #[.int .u32 (d : Nat)] w fun e w' => e = .returned (.int .i64 (codeN d : Nat)) ∧ w = w' := by
  have HE := Lib.hid (codeN_eq d)
  generalize codeN d = C at *
  go_enter Tryd.func34, Tryd.ntmps34
  go_wp2_with fail
  go_loop [3] (fun i => ∃ k : Nat, k ≤ 40 ∧ i = .int .i64 k ∧ Low d k) (fun i => 40 - (intOf i).toNat)
  case atStart => exact ⟨0, by omega, rfl, fun j hj => by omega⟩
  case round =>
    obtain ⟨k, hk, rfl, hlow⟩ := hrel
    have HD := Lib.hid (dict_small k hk w)
    have hl := dictN_lt k
    have HT := Lib.hid dictN_top
    by_cases hlt : dictN k < d
    · have hk40 : k < 40 := by
        rcases Nat.lt_or_ge k 40 with h | h
        · exact h
        · obtain rfl : k = 40 := by omega
          rw [HT.out] at hlt; omega
      have hlow' : Low d (k + 1) := by
        intro j hj
        by_cases e : j = k
        · subst e; exact hlt
        · exact hlow j (by omega)
      generalize dictN k = D at *
      go_wp2_with fail
      refine HD.out.mono ?_
      rintro e w' ⟨rfl, rfl⟩
      go_wp2_with fail
      go_round
      case rel => exact ⟨k + 1, by omega, by go_num, hlow'⟩
      case measure => simp [intOf]; omega
    · have hc := HE.out k hk (by omega) hlow
      subst hc
      generalize dictN C = D at *
      go_wp2_with fail
      refine HD.out.mono ?_
      rintro e w' ⟨rfl, rfl⟩
      go_wp2_with fail
      go_ret
      exact ⟨rfl, rfl⟩

end Go.Proofs.YtaggkcgeddoogaaDoor
