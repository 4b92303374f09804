/- The laws' knows and Fair. -/
import Derived.Test.YtfjpggpgiojmhaaPoMath
namespace Go.Proofs.Ytfjpggpgiojmhaa
open Go.RowKit

theorem fair_any (j n r : Int) (w : World) : Calls Try.prog 7 #[.int .i64 j, .int .i64 n, .int .i64 r] w fun e w' => e = .returned (.bool (fairB j n r)) ∧ w = w' := by
  unfold fairB withinB
  by_cases h0 : 0 ≤ j
  case neg =>
    have e : (decide (0 ≤ j) && decide (j ≤ 10000) && (decide (1 ≤ n) && decide (n ≤ 64)) && (decide (1 ≤ r) && decide (r ≤ 64))) = false := by simp [h0]
    rw [e]
    clear e
    go_enter Try.func7, Try.ntmps7
    go_wp2_with fail
    go_ret
    exact ⟨rfl, rfl⟩
  by_cases h1 : j ≤ 10000
  case neg =>
    have e : (decide (0 ≤ j) && decide (j ≤ 10000) && (decide (1 ≤ n) && decide (n ≤ 64)) && (decide (1 ≤ r) && decide (r ≤ 64))) = false := by simp [h1]
    rw [e]
    clear e
    go_enter Try.func7, Try.ntmps7
    go_wp2_with fail
    go_ret
    exact ⟨rfl, rfl⟩
  by_cases h2 : 1 ≤ n
  case neg =>
    have e : (decide (0 ≤ j) && decide (j ≤ 10000) && (decide (1 ≤ n) && decide (n ≤ 64)) && (decide (1 ≤ r) && decide (r ≤ 64))) = false := by simp [h2]
    rw [e]
    clear e
    go_enter Try.func7, Try.ntmps7
    go_wp2_with fail
    go_ret
    exact ⟨rfl, rfl⟩
  by_cases h3 : n ≤ 64
  case neg =>
    have e : (decide (0 ≤ j) && decide (j ≤ 10000) && (decide (1 ≤ n) && decide (n ≤ 64)) && (decide (1 ≤ r) && decide (r ≤ 64))) = false := by simp [h3]
    rw [e]
    clear e
    go_enter Try.func7, Try.ntmps7
    go_wp2_with fail
    go_ret
    exact ⟨rfl, rfl⟩
  by_cases h4 : 1 ≤ r
  case neg =>
    have e : (decide (0 ≤ j) && decide (j ≤ 10000) && (decide (1 ≤ n) && decide (n ≤ 64)) && (decide (1 ≤ r) && decide (r ≤ 64))) = false := by simp [h4]
    rw [e]
    clear e
    go_enter Try.func7, Try.ntmps7
    go_wp2_with fail
    go_ret
    exact ⟨rfl, rfl⟩
  by_cases h5 : r ≤ 64
  case neg =>
    have e : (decide (0 ≤ j) && decide (j ≤ 10000) && (decide (1 ≤ n) && decide (n ≤ 64)) && (decide (1 ≤ r) && decide (r ≤ 64))) = false := by simp [h5]
    rw [e]
    clear e
    go_enter Try.func7, Try.ntmps7
    go_wp2_with fail
    go_ret
    exact ⟨rfl, rfl⟩
  have e : (decide (0 ≤ j) && decide (j ≤ 10000) && (decide (1 ≤ n) && decide (n ≤ 64)) && (decide (1 ≤ r) && decide (r ≤ 64))) = true := by simp [h0, h1, h2, h3, h4, h5]
  rw [e]
  clear e
  go_enter Try.func7, Try.ntmps7
  go_wp2_with fail
  go_ret
  exact ⟨rfl, rfl⟩

/-- What stands behind a step: the pool still holds together. -/
theorem PoolAt.pos {w : World} {B hb mb : Nat} {P : PoolM} (h : PoolAt w B hb mb P) : ∀ i, P.W i = true → 1 ≤ P.m := fun i hi => h.set.pos i hi
abbrev P0 : PoolM := PoolM.fresh 1 1 1
abbrev P1 : PoolM := P0.split
abbrev P2 : PoolM := P1.take 0
abbrev P3 : PoolM := P2.back 0 0
abbrev P4 : PoolM := P3.collect
set_option maxRecDepth 100000 in
set_option maxHeartbeats 2000000 in
theorem knows_any (w : World) : Calls Try.prog 5 #[] w (Holds w) := by
  have I0 : P0.Inv := fresh_inv 1 1 1 (by omega) (by omega) (by omega)
  have a0 : P0.act 0 = some (0, P1) := rfl
  have a1 : P1.act 1 = some (0, P2) := rfl
  have a2 : P2.act 2 = none := rfl
  have a3 : P2.act 1 = some (0, P3) := rfl
  have a4 : P3.act 2 = some (0, P4) := rfl
  have HN := Lib.hid (New_any 1 1 1 w)
  have hf : fairB 1 1 1 = true := by decide
  go_enter Try.func5, Try.ntmps5
  go_wp2_with fail
  refine HN.out.mono ?_
  rintro e w1 ⟨hb1, ⟨h, _⟩ | ⟨_, B, hb, mb, rfl, hP, hB1, hB2, hB3⟩⟩
  · rw [hf] at h; cases h
  have hP0 : PoolAt w1 B hb mb P0 := hP
  have HS0 := Lib.hid (Step_any B hb mb P0 0 w1 hP0 I0 (by omega) (by omega))
  clear hP HN
  go_wp2_with fail
  refine HS0.out.mono ?_
  rintro e w2 ⟨hf2, ⟨h, _⟩ | ⟨j, P', h, rfl, hP1⟩⟩
  · rw [a0] at h; cases h
  rw [a0] at h; injection h with h; injection h with h1 h2; subst h1; subst h2
  have I1 := (act_next I0 hP0.pos a0).inv
  have HS1 := Lib.hid (Step_any B hb mb P1 1 w2 hP1 I1 (by omega) (by omega))
  clear HS0
  go_wp2_with fail
  refine HS1.out.mono ?_
  rintro e w3 ⟨hf3, ⟨h, _⟩ | ⟨j, P', h, rfl, hP2⟩⟩
  · rw [a1] at h; cases h
  rw [a1] at h; injection h with h; injection h with h1 h2; subst h1; subst h2
  have I2 := (act_next I1 hP1.pos a1).inv
  have HS2 := Lib.hid (Step_any B hb mb P2 2 w3 hP2 I2 (by omega) (by omega))
  clear HS1
  go_wp2_with fail
  refine HS2.out.mono ?_
  rintro e w4 ⟨hf4, ⟨_, rfl, hP2'⟩ | ⟨j, P', h, _⟩⟩
  case inr => rw [a2] at h; cases h
  have HS3 := Lib.hid (Step_any B hb mb P2 1 w4 hP2' I2 (by omega) (by omega))
  clear HS2
  go_wp2_with fail
  refine HS3.out.mono ?_
  rintro e w5 ⟨hf5, ⟨h, _⟩ | ⟨j, P', h, rfl, hP3⟩⟩
  · rw [a3] at h; cases h
  rw [a3] at h; injection h with h; injection h with h1 h2; subst h1; subst h2
  have I3 := (act_next I2 hP2'.pos a3).inv
  have HS4 := Lib.hid (Step_any B hb mb P3 2 w5 hP3 I3 (by omega) (by omega))
  clear HS3
  go_wp2_with fail
  refine HS4.out.mono ?_
  rintro e w6 ⟨hf6, ⟨h, _⟩ | ⟨j, P', h, rfl, hP4⟩⟩
  · rw [a4] at h; cases h
  rw [a4] at h; injection h with h; injection h with h1 h2; subst h1; subst h2
  have HD := Lib.hid (show Calls Try.prog 18 #[PV B] w6 fun e w' => e = .returned (.bool true) ∧ ∃ m, w' = w6.drewN m from done_any B hb mb P4 w6 hP4)
  have hb6 : Below w.heap.size w w6 := hf6.below (hf5.below (hf4.below (hf3.below (hf2.below hb1 hb1.size hB1 hB2 hB3) (Nat.le_trans hb1.size hf2.size) hB1 hB2 hB3) (Nat.le_trans hb1.size (Nat.le_trans hf2.size hf3.size)) hB1 hB2 hB3) (Nat.le_trans hb1.size (Nat.le_trans hf2.size (Nat.le_trans hf3.size hf4.size))) hB1 hB2 hB3) (Nat.le_trans hb1.size (Nat.le_trans hf2.size (Nat.le_trans hf3.size (Nat.le_trans hf4.size hf5.size)))) hB1 hB2 hB3
  have HB6 := Lib.hid hb6
  clear HS4 hP0 hP1 hP2 hP2' hP3 I0 I1 I2 I3 hf2 hf3 hf4 hf5 hf6 hb1 a0 a1 a2 a3 a4 hb6
  go_wp2_with fail
  refine HD.out.mono ?_
  rintro e w7 ⟨rfl, m7, rfl⟩
  have HD2 := Lib.hid (done_nil (w6.drewN m7))
  clear HD
  go_wp2_with fail
  refine HD2.out.mono ?_
  rintro e w8 ⟨rfl, m8, rfl⟩
  have HO := Lib.hid (show Calls Try.prog 17 #[PV B] ((w6.drewN m7).drewN m8) (OutDone 1 ((w6.drewN m7).drewN m8)) from Out_any B hb mb P4 _ (hP4.keep rfl rfl rfl) (by show 1 ≤ 10000; omega))
  clear HD2
  simp only [World.drewN_drewN] at HO
  go_wp2_with fail
  refine HO.out.mono ?_
  rintro e w9 ⟨g, rfl, _, _, hb9⟩
  go_wp2_with fail
  go_ret
  exact ⟨rfl, (below_drewN HB6.out _).trans (hb9.mono HB6.out.size)⟩
end Go.Proofs.Ytfjpggpgiojmhaa
