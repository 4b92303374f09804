/- How the reference's places stand to the pool's numbers. -/
import Derived.Test.YtfjpggpgiojmhaaPoRef
namespace Go.Proofs.Ytfjpggpgiojmhaa
open Go.RowKit

structure Rel (P : PoolM) (L : List Int) : Prop where
  len : L.length = P.J
  n0 : L.count 0 + P.s = P.J
  n1 : L.count 1 + P.t = P.s
  n2 : L.count 2 = P.m
  n3 : L.count 3 = P.c
  p3 : ∀ i (_ : i < L.length), i < P.c → L[i] = 3
  p0 : ∀ i (_ : i < L.length), P.s ≤ i → L[i] = 0
  p1 : ∀ i (_ : i < L.length), P.t ≤ i → i < P.s → L[i] = 1
  p2 : ∀ i (_ : i < L.length), P.c ≤ i → i < P.t → P.W i = true → L[i] = 2
  ph : ∀ k (_ : k < P.held.length) i (_ : i < L.length), P.held[k] = (i : Int) → L[i] = -((k : Int) + 1)
theorem rel_fresh (J N R : Nat) : Rel (PoolM.fresh J N R) (List.replicate J 0) := by
  have hc : ∀ x : Int, x ≠ 0 → (List.replicate J (0 : Int)).count x = 0 := fun x hx => by
    rw [List.count_replicate]; simp [Ne.symm hx]
  refine ⟨by simp [PoolM.fresh], by simp [PoolM.fresh], by rw [hc 1 (by decide)]; rfl, by rw [hc 2 (by decide)]; rfl, by rw [hc 3 (by decide)]; rfl, ?_, ?_, ?_, ?_, ?_⟩
  · intro i _ h; simp [PoolM.fresh] at h
  · intro i h _; simp
  · intro i _ _ h; simp [PoolM.fresh] at h
  · intro i _ _ h; simp [PoolM.fresh] at h
  · intro k hk i _ h; simp [PoolM.fresh] at h
theorem count_set_of {L : List Int} {i : Nat} (h : i < L.length) {x y b : Int} (hx : L[i] = x) : (L.set i y).count b + (if x = b then 1 else 0) = L.count b + (if y = b then 1 else 0) := by
  have hp : L[i] = b → 1 ≤ L.count b := fun e => by
    have : b ∈ L := e ▸ List.getElem_mem h
    exact List.count_pos_iff.2 this
  rw [List.count_set h]
  subst hx
  by_cases h1 : L[i] = b
  · have := hp h1
    by_cases h2 : y = b <;> simp [h1, h2] <;> omega
  · by_cases h2 : y = b <;> simp [h1, h2]
/-- What any place tells. -/
theorem Rel.class {P : PoolM} {L : List Int} (h : Rel P L) (hI : P.Inv) (i : Nat) (hi : i < L.length) :
    (i < P.c ∧ L[i] = 3) ∨ (P.s ≤ i ∧ L[i] = 0) ∨ (P.t ≤ i ∧ i < P.s ∧ L[i] = 1) ∨ (P.c ≤ i ∧ i < P.t ∧ P.W i = true ∧ L[i] = 2) ∨ (P.c ≤ i ∧ i < P.t ∧ P.W i = false ∧ ∃ k, ∃ _ : k < P.held.length, P.held[k] = (i : Int) ∧ L[i] = -((k : Int) + 1)) := by
  by_cases h1 : i < P.c
  · exact .inl ⟨h1, h.p3 i hi h1⟩
  by_cases h2 : P.s ≤ i
  · exact .inr (.inl ⟨h2, h.p0 i hi h2⟩)
  by_cases h3 : P.t ≤ i
  · exact .inr (.inr (.inl ⟨h3, by omega, h.p1 i hi h3 (by omega)⟩))
  cases hW : P.W i with
  | true => exact .inr (.inr (.inr (.inl ⟨by omega, by omega, rfl, h.p2 i hi (by omega) (by omega) hW⟩)))
  | false =>
    obtain ⟨k, hk, e⟩ := hI.free i (by omega) (by omega) hW
    exact .inr (.inr (.inr (.inr ⟨by omega, by omega, rfl, k, hk, e, h.ph k hk i hi e⟩)))
theorem Rel.split {P : PoolM} {L : List Int} (h : Rel P L) (hI : P.Inv) (hs : P.s < P.J) : Rel P.split (L.set P.s 1) := by
  have a1 := hI.ok.ct
  have a2 := hI.ok.ts
  have hl : P.s < L.length := by rw [h.len]; exact hs
  have hx := h.p0 P.s hl (Nat.le_refl _)
  have c := fun b => count_set_of hl (y := 1) (b := b) hx
  have c0 := c 0
  have c1 := c 1
  have c2 := c 2
  have c3 := c 3
  simp at c0 c1 c2 c3
  have g : ∀ i (h1 : i < (L.set P.s 1).length), (L.set P.s 1)[i] = if P.s = i then 1 else L[i]'(by rw [List.length_set] at h1; exact h1) := fun i h1 => List.getElem_set ..
  have q0 := h.n0
  have q1 := h.n1
  refine ⟨by rw [List.length_set]; exact h.len, ?_, ?_, ?_, ?_, ?_, ?_, ?_, ?_, ?_⟩
  · show _ + (P.s + 1) = P.J; omega
  · show _ + P.t = P.s + 1; omega
  · show _ = P.m; rw [c2]; exact h.n2
  · show _ = P.c; rw [c3]; exact h.n3
  · intro i hi hc
    have hc : i < P.c := hc
    rw [g, if_neg (by omega)]; exact h.p3 i _ hc
  · intro i hi hc
    have hc : P.s + 1 ≤ i := hc
    rw [g, if_neg (by omega)]; exact h.p0 i _ (by omega)
  · intro i hi hc1 hc2
    have hc2 : i < P.s + 1 := hc2
    have hc1 : P.t ≤ i := hc1
    rw [g]
    by_cases e : P.s = i
    · rw [if_pos e]
    · rw [if_neg e]; exact h.p1 i _ hc1 (by omega)
  · intro i hi hc1 hc2 hw
    have hc2 : i < P.t := hc2
    rw [g, if_neg (by omega)]; exact h.p2 i _ hc1 hc2 hw
  · intro k hk i hi he
    have he : P.held[k]'hk = (i : Int) := he
    obtain ⟨b1, b2⟩ : P.c ≤ i ∧ i < P.t := by
      rcases hI.hh k hk with e | ⟨j, e, e1, e2, _⟩
      · rw [he] at e; omega
      · rw [he] at e; omega
    rw [g, if_neg (by omega)]; exact h.ph k hk i _ he
theorem Rel.take {P : PoolM} {L : List Int} (h : Rel P L) (hI : P.Inv) (k : Nat) (hts : P.t < P.s) : Rel (P.take k) (L.set P.t (-((k : Int) + 1))) := by
  have a1 := hI.ok.ct
  have a2 := hI.ok.ts
  have a3 := hI.ok.sJ
  have hl : P.t < L.length := by rw [h.len]; omega
  have hx := h.p1 P.t hl (Nat.le_refl _) hts
  have c := fun b => count_set_of hl (y := -((k : Int) + 1)) (b := b) hx
  have c0 := c 0
  have c1 := c 1
  have c2 := c 2
  have c3 := c 3
  rw [if_neg (show ¬ ((1 : Int) = 0) by decide), if_neg (show ¬ (-((k : Int) + 1) = 0) by omega)] at c0
  rw [if_pos rfl, if_neg (show ¬ (-((k : Int) + 1) = 1) by omega)] at c1
  rw [if_neg (show ¬ ((1 : Int) = 2) by decide), if_neg (show ¬ (-((k : Int) + 1) = 2) by omega)] at c2
  rw [if_neg (show ¬ ((1 : Int) = 3) by decide), if_neg (show ¬ (-((k : Int) + 1) = 3) by omega)] at c3
  have g : ∀ i (h1 : i < (L.set P.t (-((k : Int) + 1))).length), (L.set P.t (-((k : Int) + 1)))[i] = if P.t = i then -((k : Int) + 1) else L[i]'(by rw [List.length_set] at h1; exact h1) := fun i h1 => List.getElem_set ..
  have q0 := h.n0
  have q1 := h.n1
  refine ⟨by rw [List.length_set]; exact h.len, ?_, ?_, ?_, ?_, ?_, ?_, ?_, ?_, ?_⟩
  · show _ + P.s = P.J; omega
  · show _ + (P.t + 1) = P.s; omega
  · show _ = P.m; have := h.n2; omega
  · show _ = P.c; have := h.n3; omega
  · intro i hi hc
    have hc : i < P.c := hc
    rw [g, if_neg (by omega)]; exact h.p3 i _ hc
  · intro i hi hc
    have hc : P.s ≤ i := hc
    rw [g, if_neg (by omega)]; exact h.p0 i _ (by omega)
  · intro i hi hc1 hc2
    have hc1 : P.t + 1 ≤ i := hc1
    have hc2 : i < P.s := hc2
    rw [g, if_neg (by omega)]; exact h.p1 i _ (by omega) hc2
  · intro i hi hc1 hc2 hw
    have hw : P.W i = true := hw
    have hc1 : P.c ≤ i := hc1
    have := (hI.ww i hw).2
    rw [g, if_neg (by omega)]; exact h.p2 i _ hc1 this hw
  · intro k' hk' i hi he
    have hk2 : k' < P.held.length := by
      have : (P.take k).held.length = P.held.length := List.length_set ..
      rw [this] at hk'; exact hk'
    have he2 : (if k = k' then (P.t : Int) else P.held[k']) = (i : Int) := by rw [← he]; exact (List.getElem_set ..).symm
    rw [g]
    by_cases e : k = k'
    · subst e
      rw [if_pos rfl] at he2
      rw [if_pos (by omega)]
    · rw [if_neg e] at he2
      obtain ⟨b1, b2⟩ : P.c ≤ i ∧ i < P.t := by
        rcases hI.hh k' hk2 with e | ⟨j, e, e1, e2, _⟩
        · rw [he2] at e; omega
        · rw [he2] at e; omega
      rw [if_neg (by omega)]; exact h.ph k' hk2 i _ he2
theorem Rel.back {P : PoolM} {L : List Int} (h : Rel P L) (hI : P.Inv) (k j : Nat) (hk : k < P.held.length) (hj : P.held[k] = (j : Int)) : Rel (P.back k j) (L.set j 2) := by
  have a1 := hI.ok.ct
  have a2 := hI.ok.ts
  have a3 := hI.ok.sJ
  obtain ⟨b1, b2⟩ : P.c ≤ j ∧ j < P.t := by
    rcases hI.hh k hk with e | ⟨j', e, e1, e2, _⟩
    · rw [hj] at e; omega
    · rw [hj] at e; omega
  have hl : j < L.length := by rw [h.len]; omega
  have hx := h.ph k hk j hl hj
  have c := fun b => count_set_of hl (y := 2) (b := b) hx
  have c0 := c 0
  have c1 := c 1
  have c2 := c 2
  have c3 := c 3
  rw [if_neg (show ¬ ((2 : Int) = 0) by decide), if_neg (show ¬ (-((k : Int) + 1) = 0) by omega)] at c0
  rw [if_neg (show ¬ ((2 : Int) = 1) by decide), if_neg (show ¬ (-((k : Int) + 1) = 1) by omega)] at c1
  rw [if_pos rfl, if_neg (show ¬ (-((k : Int) + 1) = 2) by omega)] at c2
  rw [if_neg (show ¬ ((2 : Int) = 3) by decide), if_neg (show ¬ (-((k : Int) + 1) = 3) by omega)] at c3
  have g : ∀ i (h1 : i < (L.set j 2).length), (L.set j 2)[i] = if j = i then 2 else L[i]'(by rw [List.length_set] at h1; exact h1) := fun i h1 => List.getElem_set ..
  have q0 := h.n0
  have q1 := h.n1
  refine ⟨by rw [List.length_set]; exact h.len, ?_, ?_, ?_, ?_, ?_, ?_, ?_, ?_, ?_⟩
  · show _ + P.s = P.J; omega
  · show _ + P.t = P.s; omega
  · show _ = P.m + 1; have := h.n2; omega
  · show _ = P.c; have := h.n3; omega
  · intro i hi hc
    have hc : i < P.c := hc
    rw [g, if_neg (by omega)]; exact h.p3 i _ hc
  · intro i hi hc
    have hc : P.s ≤ i := hc
    rw [g, if_neg (by omega)]; exact h.p0 i _ (by omega)
  · intro i hi hc1 hc2
    have hc1 : P.t ≤ i := hc1
    rw [g, if_neg (by omega)]; exact h.p1 i _ hc1 hc2
  · intro i hi hc1 hc2 hw
    have hw : (if i = j then true else P.W i) = true := hw
    rw [g]
    by_cases e : j = i
    · rw [if_pos e]
    · rw [if_neg e]
      rw [if_neg (fun h => e h.symm)] at hw
      exact h.p2 i _ hc1 hc2 hw
  · intro k' hk' i hi he
    have hk2 : k' < P.held.length := by
      have : (P.back k j).held.length = P.held.length := List.length_set ..
      rw [this] at hk'; exact hk'
    have he2 : (if k = k' then (-1 : Int) else P.held[k']) = (i : Int) := by rw [← he]; exact (List.getElem_set ..).symm
    by_cases e : k = k'
    · rw [if_pos e] at he2; omega
    · rw [if_neg e] at he2
      have hne : j ≠ i := fun e2 => e (hI.inj k k' hk hk2 (by rw [hj, he2, e2]) (by rw [hj]; omega))
      rw [g, if_neg hne]; exact h.ph k' hk2 i _ he2
theorem Rel.collect {P : PoolM} {L : List Int} (h : Rel P L) (hI : P.Inv) (hW : P.W P.c = true) : Rel P.collect (L.set P.c 3) := by
  have a1 := hI.ok.ct
  have a2 := hI.ok.ts
  have a3 := hI.ok.sJ
  have b2 := (hI.ww _ hW).2
  have hl : P.c < L.length := by rw [h.len]; omega
  have hx := h.p2 P.c hl (Nat.le_refl _) b2 hW
  have c := fun b => count_set_of hl (y := 3) (b := b) hx
  have c0 := c 0
  have c1 := c 1
  have c2 := c 2
  have c3 := c 3
  simp at c0 c1 c2 c3
  have g : ∀ i (h1 : i < (L.set P.c 3).length), (L.set P.c 3)[i] = if P.c = i then 3 else L[i]'(by rw [List.length_set] at h1; exact h1) := fun i h1 => List.getElem_set ..
  have q0 := h.n0
  have q1 := h.n1
  refine ⟨by rw [List.length_set]; exact h.len, ?_, ?_, ?_, ?_, ?_, ?_, ?_, ?_, ?_⟩
  · show _ + P.s = P.J; omega
  · show _ + P.t = P.s; omega
  · show _ = P.m - 1; have := h.n2; omega
  · show _ = P.c + 1; have := h.n3; omega
  · intro i hi hc
    have hc : i < P.c + 1 := hc
    rw [g]
    by_cases e : P.c = i
    · rw [if_pos e]
    · rw [if_neg e]; exact h.p3 i _ (by omega)
  · intro i hi hc
    have hc : P.s ≤ i := hc
    rw [g, if_neg (by omega)]; exact h.p0 i _ (by omega)
  · intro i hi hc1 hc2
    have hc1 : P.t ≤ i := hc1
    rw [g, if_neg (by omega)]; exact h.p1 i _ hc1 hc2
  · intro i hi hc1 hc2 hw
    have hc1 : P.c + 1 ≤ i := hc1
    have hw : (if i = P.c then false else P.W i) = true := hw
    rw [if_neg (by omega)] at hw
    rw [g, if_neg (by omega)]; exact h.p2 i _ (by omega) hc2 hw
  · intro k hk i hi he
    have he : P.held[k]'hk = (i : Int) := he
    have hne : P.c ≠ i := fun e => by
      rcases hI.hh k hk with e' | ⟨j, e1, _, _, e4⟩
      · rw [he] at e'; omega
      · have : j = i := by rw [he] at e1; omega
        rw [this, ← e, hW] at e4; cases e4
    rw [g, if_neg hne]; exact h.ph k hk i _ he
/-- The first at a place, by kind. -/
theorem Rel.first0 {P : PoolM} {L : List Int} (h : Rel P L) (hI : P.Inv) {z : Int} (hz : FirstIs L 0 z) : (P.s = P.J ∧ z = -1) ∨ (P.s < P.J ∧ z = (P.s : Int)) := by
  have a3 := hI.ok.sJ
  have hlen := h.len
  rcases hz with ⟨rfl, hn⟩ | ⟨i, rfl, hi, e, hq⟩
  · refine .inl ⟨?_, rfl⟩
    rcases Nat.lt_or_ge P.s P.J with hs | hs
    · exact absurd (h.p0 P.s (by omega) (Nat.le_refl _)) (hn _ _)
    · omega
  · refine .inr ?_
    have hsi : P.s ≤ i := by
      rcases h.class hI i hi with ⟨_, x⟩ | ⟨x, _⟩ | ⟨_, _, x⟩ | ⟨_, _, _, x⟩ | ⟨_, _, _, k, _, _, x⟩
      · rw [e] at x; omega
      · exact x
      · rw [e] at x; omega
      · rw [e] at x; omega
      · rw [e] at x; omega
    have : ¬ P.s < i := fun hs => hq P.s hs (h.p0 P.s (by omega) (Nat.le_refl _))
    omega
theorem Rel.first1 {P : PoolM} {L : List Int} (h : Rel P L) (hI : P.Inv) {z : Int} (hz : FirstIs L 1 z) : (P.t = P.s ∧ z = -1) ∨ (P.t < P.s ∧ z = (P.t : Int)) := by
  have a2 := hI.ok.ts
  have a3 := hI.ok.sJ
  have hlen := h.len
  rcases hz with ⟨rfl, hn⟩ | ⟨i, rfl, hi, e, hq⟩
  · refine .inl ⟨?_, rfl⟩
    rcases Nat.lt_or_ge P.t P.s with hs | hs
    · exact absurd (h.p1 P.t (by omega) (Nat.le_refl _) hs) (hn _ _)
    · omega
  · refine .inr ?_
    obtain ⟨h1, h2⟩ : P.t ≤ i ∧ i < P.s := by
      rcases h.class hI i hi with ⟨_, x⟩ | ⟨_, x⟩ | ⟨x1, x2, _⟩ | ⟨_, _, _, x⟩ | ⟨_, _, _, k, _, _, x⟩
      · rw [e] at x; omega
      · rw [e] at x; omega
      · exact ⟨x1, x2⟩
      · rw [e] at x; omega
      · rw [e] at x; omega
    have : ¬ P.t < i := fun hs => hq P.t hs (h.p1 P.t (by omega) (Nat.le_refl _) (by omega))
    omega
theorem Rel.holds {P : PoolM} {L : List Int} (h : Rel P L) (hI : P.Inv) (k : Nat) (hk : k < P.held.length) (i : Nat) (hi : i < L.length) (e : L[i] = -((k : Int) + 1)) : P.held[k] = (i : Int) := by
  rcases h.class hI i hi with ⟨_, x⟩ | ⟨_, x⟩ | ⟨_, _, x⟩ | ⟨_, _, _, x⟩ | ⟨_, _, _, k', hk', e', x⟩
  · rw [e] at x; omega
  · rw [e] at x; omega
  · rw [e] at x; omega
  · rw [e] at x; omega
  · obtain rfl : k = k' := by rw [e] at x; omega
    exact e'
theorem Rel.manyH {P : PoolM} {L : List Int} (h : Rel P L) (hI : P.Inv) (k : Nat) (hk : k < P.held.length) : (0 < L.count (-((k : Int) + 1))) ↔ P.held[k] ≠ -1 := by
  rw [List.count_pos_iff]
  constructor
  · intro hm
    obtain ⟨i, hi, e⟩ := List.getElem_of_mem hm
    rw [h.holds hI k hk i hi e]; omega
  · intro hne
    rcases hI.hh k hk with e | ⟨j, e, e1, e2, _⟩
    · exact absurd e hne
    · have hl : j < L.length := by rw [h.len]; have := hI.ok.ts; have := hI.ok.sJ; omega
      rw [← h.ph k hk j hl e]; exact List.getElem_mem hl
theorem Rel.firstH {P : PoolM} {L : List Int} (h : Rel P L) (hI : P.Inv) (k : Nat) (hk : k < P.held.length) (hne : P.held[k] ≠ -1) {z : Int} (hz : FirstIs L (-((k : Int) + 1)) z) : z = P.held[k] := by
  rcases hz with ⟨rfl, hn⟩ | ⟨i, rfl, hi, e, _⟩
  · have := (h.manyH hI k hk).2 hne
    obtain ⟨i, hi, e⟩ := List.getElem_of_mem (List.count_pos_iff.1 this)
    exact absurd e (hn i hi)
  · exact (h.holds hI k hk i hi e).symm
end Go.Proofs.Ytfjpggpgiojmhaa
