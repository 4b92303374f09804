/- Mathematics of the pool: what holds always; no deadlock. -/
import Derived.Test.YtfjpggpgiojmhaaPoNew
namespace Go.Proofs.Ytfjpggpgiojmhaa
open Go.RowKit

/-- How many steps were taken. -/
def PoolM.steps (P : PoolM) : Nat := P.s + P.t + (P.c + P.m) + P.c
theorem fresh_inv (J n R : Nat) (hJ : J ≤ 10000) (hn : 1 ≤ n ∧ n ≤ 64) (hR : 1 ≤ R ∧ R ≤ 64) : (PoolM.fresh J n R).Inv := by
  have hg : ∀ k (hk : k < (PoolM.fresh J n R).held.length), (PoolM.fresh J n R).held[k] = -1 := fun k hk => by
    simp [PoolM.fresh]
  refine ⟨⟨hJ, hR.2, by simp [PoolM.fresh]; exact hn.2, Nat.le_refl _, Nat.le_refl _, Nat.zero_le _⟩, fun k hk => .inl (hg k hk), fun i h => by simp [PoolM.fresh] at h, fun i _ h => by simp [PoolM.fresh] at h, fun k k' hk hk' _ h => absurd (hg k hk) h, ?_, ?_, ?_, ?_, hR.1⟩
  · simp [PoolM.fresh]
  · simp [PoolM.fresh]
  · simp [PoolM.fresh]
  · simp [PoolM.fresh]; exact hn.1
theorem PoolM.Inv.split {P : PoolM} (h : P.Inv) (hs : P.splitB = true) : P.split.Inv := by
  simp only [PoolM.splitB, Bool.and_eq_true, Bool.not_eq_true', beq_eq_false_iff_ne, ne_eq] at hs
  obtain ⟨⟨h1, h2⟩, h3⟩ := hs
  have a1 := h.ok.ct
  have a2 := h.ok.ts
  have a3 := h.ok.sJ
  have a4 := h.room
  have a5 := h.alive
  refine ⟨⟨h.ok.J, h.ok.R, h.ok.n, h.ok.ct, ?_, ?_⟩, h.hh, h.ww, h.free, h.inj, h.cnt, ?_, ?_, h.n1, h.R1⟩
  · show P.t ≤ P.s + 1; omega
  · show P.s + 1 ≤ P.J; omega
  · show P.s + 1 - P.t ≤ P.R; omega
  · show P.s + 1 - P.c ≤ P.held.length + P.R + 1; omega
theorem PoolM.Inv.collect {P : PoolM} (h : P.Inv) (hW : P.W P.c = true) (hm : 1 ≤ P.m) : P.collect.Inv := by
  have a0 := h.ww _ hW
  have a1 := h.ok.ct
  have a2 := h.ok.ts
  have a3 := h.ok.sJ
  have a4 := h.room
  have a5 := h.alive
  have a6 := h.cnt
  refine ⟨⟨h.ok.J, h.ok.R, h.ok.n, ?_, h.ok.ts, h.ok.sJ⟩, ?_, ?_, ?_, h.inj, ?_, h.room, ?_, h.n1, h.R1⟩
  · show P.c + 1 ≤ P.t; omega
  · intro k hk
    rcases h.hh k hk with e | ⟨j, e1, e2, e3, e4⟩
    · exact .inl e
    · refine .inr ⟨j, e1, ?_, e3, ?_⟩
      · show P.c + 1 ≤ j
        have : j ≠ P.c := fun e => by rw [e, hW] at e4; cases e4
        omega
      · show (if j = P.c then false else P.W j) = false
        split
        · rfl
        · exact e4
  · intro i hi
    have hi' : (if i = P.c then false else P.W i) = true := hi
    split at hi'
    · cases hi'
    · have := h.ww i hi'
      exact ⟨by show P.c + 1 ≤ i; omega, this.2⟩
  · intro i h1 h2 h3
    have h1' : P.c + 1 ≤ i := h1
    have h3' : (if i = P.c then false else P.W i) = false := h3
    rw [if_neg (by omega)] at h3'
    exact h.free i (by omega) h2 h3'
  · show P.m - 1 + P.held.length = P.t - (P.c + 1) + P.held.count (-1)
    omega
  · show P.s - (P.c + 1) ≤ P.held.length + P.R + 1; omega
theorem PoolM.Inv.back {P : PoolM} (h : P.Inv) (k j : Nat) (hk : k < P.held.length) (hj : P.held[k] = (j : Int)) : (P.back k j).Inv := by
  have a1 := h.ok.ct
  have a6 := h.cnt
  have hne : P.held[k] ≠ -1 := by rw [hj]; omega
  obtain ⟨b1, b2, b3⟩ : P.c ≤ j ∧ j < P.t ∧ P.W j = false := by
    rcases h.hh k hk with e | ⟨j', e1, e2, e3, e4⟩
    · exact absurd e hne
    · have : j' = j := by rw [e1] at hj; omega
      subst this; exact ⟨e2, e3, e4⟩
  have hget : ∀ k' (hk' : k' < P.held.length) (h2 : k' < (P.back k j).held.length), (P.back k j).held[k'] = if k = k' then -1 else P.held[k'] := fun k' hk' h2 => List.getElem_set ..
  have hl : (P.back k j).held.length = P.held.length := List.length_set ..
  have hcnt : (P.held.set k (-1)).count (-1) = P.held.count (-1) + 1 := by
    rw [List.count_set hk]
    have e1 : (P.held[k] == (-1 : Int)) = false := by simp [hne]
    rw [e1]; simp
  refine ⟨⟨h.ok.J, h.ok.R, by rw [hl]; exact h.ok.n, h.ok.ct, h.ok.ts, h.ok.sJ⟩, ?_, ?_, ?_, ?_, ?_, h.room, by rw [hl]; exact h.alive, by rw [hl]; exact h.n1, h.R1⟩
  · intro k' hk'
    have hk2 : k' < P.held.length := by rw [hl] at hk'; exact hk'
    rw [hget k' hk2 hk']
    by_cases e : k = k'
    · rw [if_pos e]; exact .inl rfl
    · rw [if_neg e]
      rcases h.hh k' hk2 with e1 | ⟨j', e1, e2, e3, e4⟩
      · exact .inl e1
      · refine .inr ⟨j', e1, e2, e3, ?_⟩
        show (if j' = j then true else P.W j') = false
        rw [if_neg (fun ej => e (h.inj k k' hk hk2 (by rw [hj, e1, ej]) hne))]
        exact e4
  · intro i hi
    have hi' : (if i = j then true else P.W i) = true := hi
    split at hi'
    · rename_i e; subst e; exact ⟨b1, b2⟩
    · exact h.ww i hi'
  · intro i h1 h2 h3
    have h3' : (if i = j then true else P.W i) = false := h3
    split at h3'
    · cases h3'
    · rename_i e
      obtain ⟨k', hk', e2⟩ := h.free i h1 h2 h3'
      refine ⟨k', by rw [hl]; exact hk', ?_⟩
      rw [hget k' hk' (by rw [hl]; exact hk'), if_neg (fun ek => e (by subst ek; rw [hj] at e2; omega))]
      exact e2
  · intro k1 k2 h1 h2 he hn1
    have h1' : k1 < P.held.length := by rw [hl] at h1; exact h1
    have h2' : k2 < P.held.length := by rw [hl] at h2; exact h2
    have he' := he
    have hn1' := hn1
    rw [hget k1 h1' h1, hget k2 h2' h2] at he'
    rw [hget k1 h1' h1] at hn1'
    by_cases e1 : k = k1
    · rw [if_pos e1] at hn1'; exact absurd rfl hn1'
    · rw [if_neg e1] at he' hn1'
      by_cases e2 : k = k2
      · rw [if_pos e2] at he'; exact absurd he' hn1'
      · rw [if_neg e2] at he'
        exact h.inj k1 k2 h1' h2' he' hn1'
  · show P.m + 1 + (P.held.set k (-1)).length = P.t - P.c + (P.held.set k (-1)).count (-1)
    rw [hcnt, List.length_set]; omega
theorem PoolM.Inv.take {P : PoolM} (h : P.Inv) (k : Nat) (hk : k < P.held.length) (hj : P.held[k] = -1) (hts : P.t ≠ P.s) : (P.take k).Inv := by
  have a1 := h.ok.ct
  have a2 := h.ok.ts
  have a4 := h.room
  have a6 := h.cnt
  have hget : ∀ k' (hk' : k' < P.held.length) (h2 : k' < (P.take k).held.length), (P.take k).held[k'] = if k = k' then (P.t : Int) else P.held[k'] := fun k' hk' h2 => List.getElem_set ..
  have hl : (P.take k).held.length = P.held.length := List.length_set ..
  have hpos : 0 < P.held.count (-1) := List.count_pos_iff.2 (by rw [← hj]; exact List.getElem_mem hk)
  have hcnt : (P.held.set k (P.t : Int)).count (-1) = P.held.count (-1) - 1 := by
    rw [List.count_set hk]
    have e1 : (P.held[k] == (-1 : Int)) = true := by simp [hj]
    have e2 : ((P.t : Int) == (-1 : Int)) = false := by rw [beq_eq_false_iff_ne]; omega
    rw [e1, e2]; simp
  have hWt : P.W P.t = false := by
    cases hw : P.W P.t with
    | false => rfl
    | true => have := h.ww _ hw; omega
  refine ⟨⟨h.ok.J, h.ok.R, by rw [hl]; exact h.ok.n, ?_, ?_, h.ok.sJ⟩, ?_, ?_, ?_, ?_, ?_, ?_, by rw [hl]; exact h.alive, by rw [hl]; exact h.n1, h.R1⟩
  · show P.c ≤ P.t + 1; omega
  · show P.t + 1 ≤ P.s; omega
  · intro k' hk'
    have hk2 : k' < P.held.length := by rw [hl] at hk'; exact hk'
    rw [hget k' hk2 hk']
    by_cases e : k = k'
    · rw [if_pos e]; exact .inr ⟨P.t, rfl, a1, by show P.t < P.t + 1; omega, hWt⟩
    · rw [if_neg e]
      rcases h.hh k' hk2 with e1 | ⟨j', e1, e2, e3, e4⟩
      · exact .inl e1
      · exact .inr ⟨j', e1, e2, by show j' < P.t + 1; omega, e4⟩
  · intro i hi
    have := h.ww i hi
    exact ⟨this.1, by show i < P.t + 1; omega⟩
  · intro i h1 h2 h3
    have h2' : i < P.t + 1 := h2
    by_cases e : i = P.t
    · refine ⟨k, by rw [hl]; exact hk, ?_⟩
      rw [hget k hk (by rw [hl]; exact hk), if_pos rfl, e]
    · obtain ⟨k', hk', e2⟩ := h.free i h1 (by omega) h3
      refine ⟨k', by rw [hl]; exact hk', ?_⟩
      rw [hget k' hk' (by rw [hl]; exact hk'), if_neg (fun ek => by subst ek; rw [hj] at e2; omega)]
      exact e2
  · intro k1 k2 h1 h2 he hn1
    have h1' : k1 < P.held.length := by rw [hl] at h1; exact h1
    have h2' : k2 < P.held.length := by rw [hl] at h2; exact h2
    have he' := he
    have hn1' := hn1
    rw [hget k1 h1' h1, hget k2 h2' h2] at he'
    rw [hget k1 h1' h1] at hn1'
    have key : ∀ k' (_ : k' < P.held.length), P.held[k'] ≠ (P.t : Int) := fun k' hk' e => by
      rcases h.hh k' hk' with e1 | ⟨j', e1, _, e3, _⟩ <;> (rw [e] at e1; omega)
    by_cases e1 : k = k1
    · by_cases e2 : k = k2
      · omega
      · rw [if_pos e1, if_neg e2] at he'; exact absurd he'.symm (key k2 h2')
    · rw [if_neg e1] at he' hn1'
      by_cases e2 : k = k2
      · rw [if_pos e2] at he'; exact absurd he' (key k1 h1')
      · rw [if_neg e2] at he'
        exact h.inj k1 k2 h1' h2' he' hn1'
  · show P.m + (P.held.set k (P.t : Int)).length = P.t + 1 - P.c + (P.held.set k (P.t : Int)).count (-1)
    rw [hcnt, List.length_set]; omega
  · show P.s - (P.t + 1) ≤ P.R; omega
/-- What stays, whoever goes on. -/
structure Next (P P' : PoolM) : Prop where
  inv : P'.Inv
  J : P'.J = P.J
  R : P'.R = P.R
  n : P'.held.length = P.held.length
  steps : P'.steps = P.steps + 1
theorem act_next {P P' : PoolM} {a : Int} {j : Nat} (h : P.Inv) (hm : ∀ i, P.W i = true → 1 ≤ P.m) (hA : P.act a = some (j, P')) : Next P P' := by
  unfold PoolM.act at hA
  split at hA
  · split at hA
    · rename_i hs
      injection hA with hA; injection hA with _ hA; subst hA
      exact ⟨h.split hs, rfl, rfl, rfl, by show P.s + 1 + P.t + (P.c + P.m) + P.c = P.s + P.t + (P.c + P.m) + P.c + 1; omega⟩
    · cases hA
  · split at hA
    · rename_i h1
      have hk : (a - 1).toNat < P.held.length := by omega
      generalize (a - 1).toNat = k at *
      have hg : P.held.getD k (-1) = P.held[k] := by simp [List.getD, hk]
      split at hA
      · rename_i hne
        injection hA with hA; injection hA with _ hA; subst hA
        obtain ⟨j', e1, _⟩ := h.held k hk hne
        have e2 : P.held[k] = (((P.held.getD k (-1)).toNat : Nat) : Int) := by rw [e1, ← hg, e1]; rfl
        refine ⟨h.back k _ hk e2, rfl, rfl, List.length_set .., ?_⟩
        show P.s + P.t + (P.c + (P.m + 1)) + P.c = P.s + P.t + (P.c + P.m) + P.c + 1
        omega
      · rename_i hne
        split at hA
        · cases hA
        · rename_i hts
          injection hA with hA; injection hA with _ hA; subst hA
          refine ⟨h.take k hk (by rw [← hg]; exact Decidable.not_not.1 hne) hts, rfl, rfl, List.length_set .., ?_⟩
          show P.s + (P.t + 1) + (P.c + P.m) + P.c = P.s + P.t + (P.c + P.m) + P.c + 1
          omega
    · split at hA
      · split at hA
        · rename_i hW
          injection hA with hA; injection hA with _ hA; subst hA
          have := hm _ hW
          refine ⟨h.collect hW this, rfl, rfl, rfl, ?_⟩
          show P.s + P.t + (P.c + 1 + (P.m - 1)) + (P.c + 1) = P.s + P.t + (P.c + P.m) + P.c + 1
          omega
        · cases hA
      · cases hA
theorem act_live {P : PoolM} (h : P.Inv) (hc : P.c < P.J) : ∃ a, a < P.held.length + 2 ∧ (P.act (a : Nat)).isSome = true := by
  have a1 := h.ok.ct
  have a2 := h.ok.ts
  have n1 := h.n1
  by_cases hW : P.W P.c = true
  · refine ⟨P.held.length + 1, by omega, ?_⟩
    unfold PoolM.act
    rw [if_neg (by omega), if_neg (by omega), if_pos (by omega), if_pos hW]; rfl
  · have hW' : P.W P.c = false := by simpa using hW
    by_cases hct : P.c < P.t
    · obtain ⟨k, hk, e⟩ := h.free P.c (Nat.le_refl _) hct hW'
      refine ⟨k + 1, by omega, ?_⟩
      have hkk : (((k + 1 : Nat) : Int) - 1).toNat = k := by omega
      have hg : P.held.getD k (-1) = (P.c : Int) := by simp [List.getD, hk, e]
      unfold PoolM.act
      rw [if_neg (by omega), if_pos (by omega), hkk, hg, if_pos (by omega)]; rfl
    · have hall : ∀ k (hk : k < P.held.length), P.held[k] = -1 := fun k hk => by
        rcases h.hh k hk with e | ⟨j, _, e2, e3, _⟩
        · exact e
        · omega
      by_cases hts : P.t = P.s
      · refine ⟨0, by omega, ?_⟩
        have hR := h.R1
        have hs : P.splitB = true := by
          have e1 : (P.s == P.J) = false := by simp; omega
          have e2 : (P.s - P.t == P.R) = false := by simp; omega
          have e3 : (P.s - P.c == P.held.length + P.R + 1) = false := by simp; omega
          unfold PoolM.splitB; rw [e1, e2, e3]; rfl
        unfold PoolM.act
        rw [if_pos (by omega), if_pos hs]; rfl
      · refine ⟨1, by omega, ?_⟩
        have hg : P.held.getD 0 (-1) = -1 := by simp [List.getD, show 0 < P.held.length by omega, hall 0 (by omega)]
        unfold PoolM.act
        rw [if_neg (by omega), if_pos (by omega), show (((1 : Nat) : Int) - 1).toNat = 0 by omega, hg, if_neg (by simp), if_neg hts]; rfl
theorem act_dead {P : PoolM} (h : P.Inv) (hc : P.c = P.J) (a : Int) : P.act a = none := by
  have a1 := h.ok.ct
  have a2 := h.ok.ts
  have a3 := h.ok.sJ
  have hall : ∀ k (hk : k < P.held.length), P.held[k] = -1 := fun k hk => by
    rcases h.hh k hk with e | ⟨j, _, e2, e3, _⟩
    · exact e
    · omega
  have hs : P.splitB = false := by
    have e1 : (P.s == P.J) = true := by simp; omega
    unfold PoolM.splitB; rw [e1]; rfl
  unfold PoolM.act
  split
  · rw [if_neg (by rw [hs]; simp)]
  · split
    · rename_i h1
      have hk : (a - 1).toNat < P.held.length := by omega
      generalize (a - 1).toNat = k at *
      have hg : P.held.getD k (-1) = -1 := by simp [List.getD, hk, hall k hk]
      rw [hg, if_neg (by simp), if_pos (by omega)]
    · split
      · rw [if_neg (fun hW => by have := h.ww _ hW; omega)]
      · rfl
theorem PoolM.Inv.m_le {P : PoolM} (h : P.Inv) : P.m ≤ P.t - P.c := by
  have h1 := h.cnt
  have h2 : P.held.count (-1) ≤ P.held.length := List.count_le_length
  omega
theorem steps_done {P : PoolM} (h : P.Inv) : P.steps ≤ 4 * P.J ∧ (P.steps = 4 * P.J ↔ P.c = P.J) := by
  have a1 := h.ok.ct
  have a2 := h.ok.ts
  have a3 := h.ok.sJ
  have a4 := h.m_le
  have a5 := h.cnt
  unfold PoolM.steps
  refine ⟨by omega, fun e => by omega, fun e => ?_⟩
  have : P.m = 0 := by omega
  omega
theorem enab_dead {P : PoolM} (h : P.Inv) (hc : P.c = P.J) (n : Nat) : P.enab n = [] := by
  unfold PoolM.enab
  rw [List.filter_eq_nil_iff]
  intro a _
  rw [act_dead h hc]; simp
theorem enab_live {P : PoolM} (h : P.Inv) (hc : P.c < P.J) : 0 < (P.enab (P.held.length + 2)).length := by
  obtain ⟨a, h1, h2⟩ := act_live h hc
  have : a ∈ P.enab (P.held.length + 2) := by
    unfold PoolM.enab
    rw [List.mem_filter]
    exact ⟨List.mem_range.2 h1, h2⟩
  exact List.length_pos_of_mem this
theorem enab_mem {P : PoolM} {n a : Nat} (h : a ∈ P.enab n) : a < n ∧ (P.act (a : Nat)).isSome = true := by
  unfold PoolM.enab at h
  rw [List.mem_filter] at h
  exact ⟨List.mem_range.1 h.1, h.2⟩
theorem SetAt.pos {w : World} {b m : Nat} {W : Nat → Bool} (h : SetAt w b W m) (i : Nat) (hi : W i = true) : 1 ≤ m := by
  obtain ⟨D, h1, h2, h3⟩ := h
  have := Maps.size_del (k := .int .i64 (i : Nat)) (h1.tidy keyedInt)
  rw [h3, hi, h2] at this
  simp at this; omega
end Go.Proofs.Ytfjpggpgiojmhaa
