/- What the parser yields of a part stands for it. -/
import Derived.Test.YtklkboplkobhgaaGreatPaAll
namespace Go.Proofs.YtklkboplkobhgaaGreat
set_option maxRecDepth 100000
open Go.RowKit

theorem next_stands_to {D : List UInt8} {dict nice : Int} {tt p : Nat} {r : R4} (hp : p < tt) (ht : tt ≤ D.length) (hD : D.length ≤ 100000) (hdict : 1 ≤ dict) (hn : nice ≤ 273) : Stands D dict p r (nextS D dict nice tt p r) := by
  unfold nextS chooseS
  obtain ⟨X, hX⟩ : ∃ X : Int, (tt : Int) - (p : Int) = X := ⟨_, rfl⟩
  rw [hX]
  obtain ⟨⟨rn, rw_⟩, hr⟩ : ∃ z, bestRep D dict (p : Int) X r.1 r.2.1 r.2.2.1 r.2.2.2 = z := ⟨_, rfl⟩
  obtain ⟨⟨mn, mk⟩, hm⟩ : ∃ z, bestV D dict nice (p : Int) X = z := ⟨_, rfl⟩
  rw [hr, hm]
  simp only
  split
  · rename_i h1
    have hlt : rw_ < 4 := by
      have := firstTo_lt (g := fun i => backOf D dict (p : Int) (r4 r.1 r.2.1 r.2.2.1 r.2.2.2 i) X) 4 (by decide)
      unfold bestRep at hr; rw [hr] at this; exact this
    have hat : backOf D dict (p : Int) (r4 r.1 r.2.1 r.2.2.1 r.2.2.2 rw_) X = rn := by
      have := firstTo_at (g := fun i => backOf D dict (p : Int) (r4 r.1 r.2.1 r.2.2.1 r.2.2.2 i) X) 4
      unfold bestRep at hr; rw [hr] at this
      rcases this with e | e
      · simp only at e; omega
      · exact e
    obtain ⟨k, hk, hc, hkd, hl, hm2⟩ := cut_of_back hat (by omega)
    have hra := r4_at r rw_
    rw [hk] at hra
    have hcb := hc.back
    have hdz : distZ r ((2 : Nat) : Int) ((0 : Nat) : Int) (rw_ : Nat) = (k : Int) := hra
    refine ⟨Nat.le_refl 2, by show rw_ ≤ 3; omega, ?_, by rw [hdz]; exact hkd, rfl, ⟨k, hdz, fun _ => ⟨hc.one, hcb⟩, ?_⟩, ?_, hl⟩
    · show fitsZ r (p : Int) 2 (rn : Nat) 0 (rw_ : Nat) = true
      unfold fitsZ
      rw [hra]
      simp; omega
    · show growS (D.take p) 2 0 rn k = D.take (p + max rn 1)
      rw [show max rn 1 = rn by omega]
      exact grow_of_cut rn hc
    · show p + max rn 1 ≤ D.length
      have := hc.fits; omega
  · split
    · rename_i h1 h2
      obtain ⟨g2, g3, hc, hkd, _⟩ := cut_of_best hm (by omega)
      have hcb := hc.back
      have hc1 := hc.one
      refine ⟨(by decide : 1 ≤ 2), Nat.zero_le 3, ?_, hkd, rfl, ⟨mk, rfl, fun _ => ⟨hc.one, hcb⟩, ?_⟩, ?_, by show mn ≤ 273; omega⟩
      · show fitsZ r (p : Int) 1 (mn : Nat) (mk : Nat) 0 = true
        unfold fitsZ
        simp; omega
      · show growS (D.take p) 1 0 mn mk = D.take (p + max mn 1)
        rw [show max mn 1 = mn by omega]
        exact grow_of_cut mn hc
      · show p + max mn 1 ≤ D.length
        have := hc.fits; omega
    · split
      · rename_i h1 h2 h3
        obtain ⟨l, hl⟩ : ∃ l, backOf D dict (p : Int) r.1 X = l := ⟨_, rfl⟩
        rw [hl] at h3
        obtain ⟨k, hk, hc, hkd, _, _⟩ := cut_of_back hl (by omega)
        have hc' : Cut D p 1 k := ⟨hc.one, hc.back, by have := hc.fits; omega, fun i hi => hc.same i (by omega)⟩
        have hcb := hc.back
        have hdz : distZ r ((2 : Nat) : Int) ((0 : Nat) : Int) ((0 : Nat) : Int) = (k : Int) := hk
        have hra : rAt r 0 = (k : Int) := hk
        refine ⟨Nat.le_refl 2, Nat.zero_le 3, ?_, by rw [hdz]; exact hkd, rfl, ⟨k, hdz, fun _ => ⟨hc.one, hcb⟩, ?_⟩, ?_, by show 1 ≤ 273; decide⟩
        · show fitsZ r (p : Int) 2 1 0 0 = true
          unfold fitsZ
          rw [hra]
          simp; omega
        · show growS (D.take p) 2 0 1 k = D.take (p + max 1 1)
          exact grow_of_cut 1 hc'
        · show p + max 1 1 ≤ D.length
          omega
      · refine ⟨Nat.zero_le 2, Nat.zero_le 3, rfl, by show (0 : Int) ≤ dict; omega, rfl, ⟨0, rfl, fun h => absurd rfl h, ?_⟩, ?_, Nat.zero_le _⟩
        · show D.take p ++ [D.getD p 0] = D.take (p + max 0 1)
          rw [show max 0 1 = 1 from rfl, List.take_add_one, getD_of (Nat.lt_of_lt_of_le hp ht), List.getElem?_eq_getElem (Nat.lt_of_lt_of_le hp ht)]; rfl
        · show p + max 0 1 ≤ D.length
          omega
theorem next_to {D : List UInt8} {dict nice : Int} {tt p : Nat} {r : R4} (hp : p < tt) : p + max (nextS D dict nice tt p r).l 1 ≤ tt := by
  unfold nextS chooseS
  obtain ⟨X, hX⟩ : ∃ X : Int, (tt : Int) - (p : Int) = X := ⟨_, rfl⟩
  rw [hX]
  obtain ⟨⟨rn, rw_⟩, hr⟩ : ∃ z, bestRep D dict (p : Int) X r.1 r.2.1 r.2.2.1 r.2.2.2 = z := ⟨_, rfl⟩
  obtain ⟨⟨mn, mk⟩, hm⟩ : ∃ z, bestV D dict nice (p : Int) X = z := ⟨_, rfl⟩
  rw [hr, hm]
  simp only
  split
  · rename_i h1
    have hat : backOf D dict (p : Int) (r4 r.1 r.2.1 r.2.2.1 r.2.2.2 rw_) X = rn := by
      have := firstTo_at (g := fun i => backOf D dict (p : Int) (r4 r.1 r.2.1 r.2.2.1 r.2.2.2 i) X) 4
      unfold bestRep at hr; rw [hr] at this
      rcases this with e | e
      · simp only at e; omega
      · exact e
    obtain ⟨k, hk, hc, hkd, hl, hm2⟩ := cut_of_back hat (by omega)
    show p + max rn 1 ≤ tt
    omega
  · split
    · rename_i h1 h2
      obtain ⟨g2, g3, hc, hkd, hm2⟩ := cut_of_best hm (by omega)
      show p + max mn 1 ≤ tt
      omega
    · split
      · show p + max 1 1 ≤ tt
        omega
      · show p + max 0 1 ≤ tt
        omega
end Go.Proofs.YtklkboplkobhgaaGreat
