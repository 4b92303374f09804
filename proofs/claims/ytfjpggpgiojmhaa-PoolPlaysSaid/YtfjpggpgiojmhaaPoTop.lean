/- pool's step and Step: what any actor comes to. -/
import Derived.Test.YtfjpggpgiojmhaaPoWork
namespace Go.Proofs.Ytfjpggpgiojmhaa
open Go.RowKit

/-- What an actor comes to: its job, and the pool behind it. -/
def PoolM.act (P : PoolM) (a : Int) : Option (Nat × PoolM) :=
  if a = 0 then (if P.splitB = true then some (P.s, P.split) else none)
  else if 1 ≤ a ∧ a ≤ (P.held.length : Int) then
    (if P.held.getD (a - 1).toNat (-1) ≠ -1 then some ((P.held.getD (a - 1).toNat (-1)).toNat, P.back (a - 1).toNat (P.held.getD (a - 1).toNat (-1)).toNat)
    else if P.t = P.s then none else some (P.t, P.take (a - 1).toNat))
  else if a = (P.held.length : Int) + 1 then (if P.W P.c = true then some (P.c, P.collect) else none)
  else none
structure PoolM.Inv (P : PoolM) : Prop where
  ok : P.Ok
  hh : ∀ k (_ : k < P.held.length), P.held[k] = -1 ∨ ∃ j : Nat, P.held[k] = (j : Int) ∧ P.c ≤ j ∧ j < P.t ∧ P.W j = false
  ww : ∀ i, P.W i = true → P.c ≤ i ∧ i < P.t
  free : ∀ i, P.c ≤ i → i < P.t → P.W i = false → ∃ k, ∃ _ : k < P.held.length, P.held[k] = (i : Int)
  inj : ∀ k k' (_ : k < P.held.length) (_ : k' < P.held.length), P.held[k] = P.held[k'] → P.held[k] ≠ -1 → k = k'
  cnt : P.m + P.held.length = (P.t - P.c) + P.held.count (-1)
  room : P.s - P.t ≤ P.R
  alive : P.s - P.c ≤ P.held.length + P.R + 1
  n1 : 1 ≤ P.held.length
  R1 : 1 ≤ P.R
theorem PoolM.Inv.small {P : PoolM} (h : P.Inv) : P.m ≤ 10000 ∧ P.s ≤ 10000 ∧ P.t ≤ 10000 ∧ P.c ≤ 10000 := by
  have h1 := h.cnt
  have h2 : P.held.count (-1) ≤ P.held.length := List.count_le_length
  have h3 := h.ok.J
  have h4 := h.ok.sJ
  have h5 := h.ok.ts
  have h6 := h.ok.ct
  omega
theorem PoolM.Inv.held {P : PoolM} (h : P.Inv) (k : Nat) (hk : k < P.held.length) (hne : P.held.getD k (-1) ≠ -1) : ∃ j : Nat, P.held.getD k (-1) = (j : Int) ∧ P.c ≤ j ∧ j < P.t ∧ P.W j = false := by
  have hg : P.held.getD k (-1) = P.held[k] := by simp [List.getD, hk]
  rw [hg] at hne ⊢
  rcases h.hh k hk with h1 | h1
  · exact absurd h1 hne
  · exact h1
def StepV (B lo : Nat) (P : PoolM) (a : Int) (w : World) (v : Value) : Prop :=
  (P.act a = none ∧ v = .nilFunc) ∨
  (P.act a = some (P.s, P.split) ∧ ∃ b1, v = .func (.func 27) #[] #[PV b1] ∧ BoxAt b1 w (PV B) ∧ lo ≤ b1) ∨
  (∃ k j : Nat, k < P.held.length ∧ j < P.t ∧ P.W j = false ∧ P.act a = some (j, P.back k j) ∧ ∃ b1 b2 b3, v = .func (.func 28) #[] #[PV b1, PV b2, PV b3] ∧ BoxAt b1 w (PV B) ∧ BoxAt b2 w (.int .i64 (k : Nat)) ∧ BoxAt b3 w (.int .i64 (j : Nat)) ∧ lo ≤ b1 ∧ lo ≤ b2 ∧ lo ≤ b3) ∨
  (∃ k : Nat, k < P.held.length ∧ P.act a = some (P.t, P.take k) ∧ ∃ b1 b2, v = .func (.func 29) #[] #[PV b1, PV b2] ∧ BoxAt b1 w (PV B) ∧ BoxAt b2 w (.int .i64 (k : Nat)) ∧ lo ≤ b1 ∧ lo ≤ b2) ∨
  (P.act a = some (P.c, P.collect) ∧ P.W P.c = true ∧ ∃ b1, v = .func (.func 30) #[] #[PV b1] ∧ BoxAt b1 w (PV B) ∧ lo ≤ b1)
def StepDone (B : Nat) (P : PoolM) (a : Int) (w : World) (e : Ending) (w' : World) : Prop := ∃ v, e = .returned v ∧ Below w.heap.size w w' ∧ StepV B w.heap.size P a w' v

set_option maxRecDepth 100000 in
set_option maxHeartbeats 1000000 in
theorem step_any (B hb mb : Nat) (P : PoolM) (a : Int) (w : World) (hP : PoolAt w B hb mb P) (hI : P.Inv) (ha0 : -9223372036854775808 ≤ a) (ha1 : a ≤ 9223372036854775807) :
    Calls Try.prog 21 #[PV B, .int .i64 a] w (StepDone B P a w) := by
  have hni : (P.held.length : Int) ≤ 64 := by have := hI.ok.n; omega
  have HCO := Lib.hid (collector_any B hb mb P w hP hI.ok.n)
  have HA : Hid (P.act a = if a = 0 then (if P.splitB = true then some (P.s, P.split) else none)
    else if 1 ≤ a ∧ a ≤ (P.held.length : Int) then
      (if P.held.getD (a - 1).toNat (-1) ≠ -1 then some ((P.held.getD (a - 1).toNat (-1)).toNat, P.back (a - 1).toNat (P.held.getD (a - 1).toNat (-1)).toNat)
      else if P.t = P.s then none else some (P.t, P.take (a - 1).toNat))
    else if a = (P.held.length : Int) + 1 then (if P.W P.c = true then some (P.c, P.collect) else none)
    else none) := Lib.hid rfl
  by_cases h0 : a = 0
  · subst h0
    rw [if_pos rfl] at HA
    have HS := Lib.hid (splitStep_any B hb mb P w hP hI.ok)
    go_enter Try.func21, Try.ntmps21
    go_wp2_with fail
    refine HS.out.mono ?_
    rintro e w1 ⟨hb1, ⟨h, rfl⟩ | ⟨h, b1, rfl, hx, hl⟩⟩
    · rw [if_neg (by rw [h]; simp)] at HA
      go_wp2_with fail
      go_ret
      exact ⟨_, rfl, hb1, .inl ⟨HA.out, rfl⟩⟩
    · rw [if_pos h] at HA
      go_wp2_with fail
      go_ret
      exact ⟨_, rfl, hb1, .inr (.inl ⟨HA.out, b1, rfl, hx, hl⟩)⟩
  rw [if_neg h0] at HA
  have h0b : (a == 0) = false := by simp [h0]
  by_cases hpos : 0 < a
  case neg =>
    rw [if_neg (by omega), if_neg (by omega)] at HA
    have h1 : ¬ 0 < a := hpos
    have h2 : (a == (P.held.length : Int) + 1) = false := by simp; omega
    clear h0
    go_enter Try.func21, Try.ntmps21
    go_wp2_with fail
    refine HCO.out.mono ?_
    rintro e w1 ⟨rfl, rfl⟩
    go_wp2_with fail
    go_ret
    exact ⟨_, rfl, Below.refl _ _, .inl ⟨HA.out, rfl⟩⟩
  by_cases hlt : a < (P.held.length : Int) + 1
  · rw [if_pos (by omega)] at HA
    obtain ⟨k, hk⟩ : ∃ k : Nat, a = (k : Int) + 1 := ⟨(a - 1).toNat, by omega⟩
    subst hk
    have hkk : ((k : Int) + 1 - 1).toNat = k := by omega
    rw [hkk] at HA
    have hkl : k < P.held.length := by omega
    have HW := Lib.hid (workStep_any B hb mb k P w hP hI.ok hkl)
    have HHE := Lib.hid (hI.held k hkl)
    clear h0 hkk
    go_enter Try.func21, Try.ntmps21
    go_wp2_with fail
    refine HCO.out.mono ?_
    rintro e w1 ⟨rfl, rfl⟩
    go_wp2_with fail
    refine HW.out.mono ?_
    rintro e w1 ⟨hb1, ⟨h1, h2, rfl⟩ | ⟨h1, b1, b2, b3, rfl, hx1, hx2, hx3, hl1, hl2, hl3⟩ | ⟨h1, h2, b1, b2, rfl, hx1, hx2, hl1, hl2⟩⟩
    · rw [if_neg (fun h => h h1), if_pos h2] at HA
      go_wp2_with fail
      go_ret
      exact ⟨_, rfl, hb1, .inl ⟨HA.out, rfl⟩⟩
    · obtain ⟨j, hj, _, hjt, hjw⟩ := HHE.out h1
      rw [if_pos h1, hj] at HA
      rw [hj] at hx3
      have HX3 := Lib.hid hx3
      clear hj hx3 h1
      go_wp2_with fail
      go_ret
      exact ⟨_, rfl, hb1, .inr (.inr (.inl ⟨k, j, hkl, hjt, hjw, HA.out, b1, b2, b3, rfl, hx1, hx2, HX3.out, hl1, hl2, hl3⟩))⟩
    · rw [if_neg (fun h => h h1), if_neg h2] at HA
      go_wp2_with fail
      go_ret
      exact ⟨_, rfl, hb1, .inr (.inr (.inr (.inl ⟨k, hkl, HA.out, b1, b2, rfl, hx1, hx2, hl1, hl2⟩)))⟩
  rw [if_neg (by omega)] at HA
  by_cases hc : a = (P.held.length : Int) + 1
  · rw [if_pos hc] at HA
    have h2 : (a == (P.held.length : Int) + 1) = true := by simp [hc]
    have HC := Lib.hid (collectStep_any B hb mb P w hP hI.ok)
    clear h0 hc
    go_enter Try.func21, Try.ntmps21
    go_wp2_with fail
    refine HCO.out.mono ?_
    rintro e w1 ⟨rfl, rfl⟩
    go_wp2_with fail
    refine HCO.out.mono ?_
    rintro e w1 ⟨rfl, rfl⟩
    go_wp2_with fail
    refine HC.out.mono ?_
    rintro e w1 ⟨hb1, ⟨h, rfl⟩ | ⟨h, b1, rfl, hx, hl⟩⟩
    · rw [if_neg (by rw [h]; simp)] at HA
      go_wp2_with fail
      go_ret
      exact ⟨_, rfl, hb1, .inl ⟨HA.out, rfl⟩⟩
    · rw [if_pos h] at HA
      go_wp2_with fail
      go_ret
      exact ⟨_, rfl, hb1, .inr (.inr (.inr (.inr ⟨HA.out, h, b1, rfl, hx, hl⟩)))⟩
  · rw [if_neg hc] at HA
    have h2 : (a == (P.held.length : Int) + 1) = false := by simp [hc]
    clear h0 hc
    go_enter Try.func21, Try.ntmps21
    go_wp2_with fail
    refine HCO.out.mono ?_
    rintro e w1 ⟨rfl, rfl⟩
    go_wp2_with fail
    refine HCO.out.mono ?_
    rintro e w1 ⟨rfl, rfl⟩
    go_wp2_with fail
    go_ret
    exact ⟨_, rfl, Below.refl _ _, .inl ⟨HA.out, rfl⟩⟩
end Go.Proofs.Ytfjpggpgiojmhaa
