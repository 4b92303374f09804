/- What the parser yields stands for the bytes: the mathematics. -/
import Derived.Test.YtnglkipjiojipaaCoGrow
import Derived.Test.YtnglkipjiojipaaFdScan
namespace Go.Proofs.Ytnglkipjiojipaa
open Go.RowKit

structure Cut (D : List UInt8) (p l k : Nat) : Prop where
  one : 1 ≤ k
  back : k ≤ p
  fits : p + l ≤ D.length
  same : ∀ i, i < l → D.getD (p + i) 0 = D.getD (p + i - k) 0
theorem cut_of_len {D : List UInt8} {p k L l : Nat} (h1 : 1 ≤ k) (h2 : k ≤ p) (hL : p + L ≤ D.length) (h : eqLen D p (p - k) L = l) : Cut D p l k := by
  have hl := isLen_eqLen D L p (p - k)
  rw [h] at hl
  exact ⟨h1, h2, by have := hl.le; omega, fun i hi => by rw [hl.eq i hi]; congr 1; omega⟩
theorem cut_of_back {D : List UInt8} {dict dist most : Int} {p l : Nat} (h : backOf D dict (p : Int) dist most = l) (hl : 0 < l) : ∃ k : Nat, dist = (k : Int) ∧ Cut D p l k ∧ (k : Int) ≤ dict ∧ l ≤ 273 ∧ (l : Int) ≤ most := by
  unfold backOf at h
  split at h
  · rename_i hc
    obtain ⟨k, rfl⟩ : ∃ k : Nat, dist = (k : Int) := ⟨dist.toNat, by omega⟩
    simp only [Int.toNat_natCast] at h
    have hlim : lim D p (min 273 most) = (min (min 273 most) ((D.length : Int) - (p : Int))).toNat := rfl
    have hle := eqLen_le D p (p - k) (lim D p (min 273 most))
    exact ⟨k, rfl, cut_of_len (by omega) (by omega) (by omega) h, hc.2.2.2.2, by omega, by omega⟩
  · omega
theorem cut_of_best {D : List UInt8} {dict nice most : Int} {p n k : Nat} (h : bestV D dict nice (p : Int) most = (n, k)) (hn : 0 < n) : 2 ≤ n ∧ (n : Int) ≤ nice ∧ Cut D p n k ∧ (k : Int) ≤ dict ∧ (n : Int) ≤ most := by
  unfold bestV at h
  split at h
  · rename_i hc
    rw [Int.toNat_natCast] at h
    unfold bestOf at h
    have hB := bestTo_is (fun k => eqLen D p (p - k) (lim D p (min nice most))) (min (p : Int) dict).toNat
    split at h
    · injection h with h _; omega
    · rename_i h2
      rw [h] at hB h2
      rcases hB.at_ with ⟨e, _⟩ | ⟨h1, h3, h4, h5⟩
      · simp only at e; omega
      · simp only at h1 h3 h4 h5 h2
        have hlim : lim D p (min nice most) = (min (min nice most) ((D.length : Int) - (p : Int))).toNat := rfl
        have hle := eqLen_le D p (p - k) (lim D p (min nice most))
        exact ⟨by omega, by omega, cut_of_len h1 (by omega) (by omega) h4, by omega, by omega⟩
  · injection h with h _; omega
theorem firstTo_at {g : Nat → Nat} : ∀ n, (firstTo g n).1 = 0 ∨ g (firstTo g n).2 = (firstTo g n).1
  | 0 => .inl rfl
  | n + 1 => by
    unfold firstTo
    split
    · exact .inr rfl
    · exact firstTo_at n
theorem grow_of_cut {D : List UInt8} {p k : Nat} : ∀ (l : Nat), Cut D p l k → growN (D.take p) k l = D.take (p + l)
  | 0, _ => rfl
  | l + 1, h => by
    have ih := grow_of_cut (D := D) (p := p) (k := k) l ⟨h.one, h.back, by have := h.fits; omega, fun i hi => h.same i (by omega)⟩
    have hf := h.fits
    have h1 := h.one
    have hb := h.back
    unfold growN
    rw [ih]
    have e : (D.take (p + l)).length = p + l := by rw [List.length_take]; omega
    rw [e]
    have e2 : (D.take (p + l)).getD (p + l - k) 0 = D.getD (p + l) 0 := by
      rw [h.same l (by omega)]
      simp only [List.getD_eq_getElem?_getD]
      rw [List.getElem?_take_of_lt (by omega)]
    rw [e2, ← Nat.add_assoc, List.take_add_one, getD_of (by omega), List.getElem?_eq_getElem (by omega)]
    rfl
/-- What the law asks of a symbol. -/
structure Stands (D : List UInt8) (dict : Int) (p : Nat) (r : R4) (s : Sy) : Prop where
  k : s.k ≤ 2
  q : s.r ≤ 3
  fits : fitsZ r (p : Int) (s.k : Nat) (s.l : Nat) (s.d : Nat) (s.r : Nat) = true
  near : distZ r (s.k : Nat) (s.d : Nat) (s.r : Nat) ≤ dict
  plain : plainZ (s.k : Nat) s.b (s.l : Nat) (s.d : Nat) (s.r : Nat) = s.val
  back : ∃ n : Nat, distZ r (s.k : Nat) (s.d : Nat) (s.r : Nat) = (n : Int) ∧ (((s.k : Nat) : Int) ≠ 0 → 1 ≤ n ∧ n ≤ p) ∧ growS (D.take p) (s.k : Nat) s.b s.l n = D.take (p + max s.l 1)
  grows : p + max s.l 1 ≤ D.length
  short : s.l ≤ 273
theorem repsAfter_after (s : Sy) (hk : s.k ≤ 2) (r : R4) : repsAfter r (s.k : Nat) (s.d : Nat) (s.r : Nat) = afterS s r := by
  obtain ⟨k, b, l, d, q⟩ := s
  simp only at hk
  rcases (by omega : k = 0 ∨ k = 1 ∨ k = 2) with rfl | rfl | rfl
  · rfl
  · rfl
  · unfold repsAfter afterS
    rw [if_neg (show ¬ ((2 : Nat) : Int) = 0 by decide), if_neg (show ¬ ((2 : Nat) : Int) = 1 by decide), if_neg (show ¬ 2 = 0 by decide), if_neg (show ¬ 2 = 1 by decide)]
    simp only
    match q with
    | 0 => rfl
    | 1 => rfl
    | 2 => rfl
    | q + 3 =>
      rw [if_neg (by omega), if_neg (by omega), if_neg (by omega)]; rfl
theorem r4_at (r : R4) (q : Nat) : rAt r (q : Int) = r4 r.1 r.2.1 r.2.2.1 r.2.2.2 q := by
  unfold rAt; rw [Int.toNat_natCast]
theorem next_stands {D : List UInt8} {dict nice : Int} {p : Nat} {r : R4} (hp : p < D.length) (hD : D.length ≤ 100000) (hdict : 1 ≤ dict) (hn : nice ≤ 273) : Stands D dict p r (nextS D dict nice D.length p r) := by
  unfold nextS chooseS
  obtain ⟨X, hX⟩ : ∃ X : Int, (D.length : Int) - (p : Int) = X := ⟨_, rfl⟩
  rw [hX]
  obtain ⟨⟨rn, rw_⟩, hr⟩ : ∃ z, bestRep D dict (p : Int) X r.1 r.2.1 r.2.2.1 r.2.2.2 = z := ⟨_, rfl⟩
  obtain ⟨⟨mn, mk⟩, hm⟩ : ∃ z, bestV D dict nice (p : Int) X = z := ⟨_, rfl⟩
  rw [hr, hm]
  simp only
  split
  · rename_i h1
    have hlt : rw_ < 4 := by
      have := firstTo_lt (g := fun i => backOf D dict (p : Int) (r4 r.1 r.2.1 r.2.2.1 r.2.2.2 i) X) 4 (by decide)
      unfold bestRep at hr; rw [hr] at this; exact this
    have hat : backOf D dict (p : Int) (r4 r.1 r.2.1 r.2.2.1 r.2.2.2 rw_) X = rn := by
      have := firstTo_at (g := fun i => backOf D dict (p : Int) (r4 r.1 r.2.1 r.2.2.1 r.2.2.2 i) X) 4
      unfold bestRep at hr; rw [hr] at this
      rcases this with e | e
      · simp only at e; omega
      · exact e
    obtain ⟨k, hk, hc, hkd, hl, hm2⟩ := cut_of_back hat (by omega)
    have hra := r4_at r rw_
    rw [hk] at hra
    have hcb := hc.back
    have hdz : distZ r ((2 : Nat) : Int) ((0 : Nat) : Int) (rw_ : Nat) = (k : Int) := hra
    refine ⟨Nat.le_refl 2, by show rw_ ≤ 3; omega, ?_, by rw [hdz]; exact hkd, rfl, ⟨k, hdz, fun _ => ⟨hc.one, hcb⟩, ?_⟩, ?_, hl⟩
    · show fitsZ r (p : Int) 2 (rn : Nat) 0 (rw_ : Nat) = true
      unfold fitsZ
      rw [hra]
      simp; omega
    · show growS (D.take p) 2 0 rn k = D.take (p + max rn 1)
      rw [show max rn 1 = rn by omega]
      exact grow_of_cut rn hc
    · show p + max rn 1 ≤ D.length
      have := hc.fits; omega
  · split
    · rename_i h1 h2
      obtain ⟨g2, g3, hc, hkd, _⟩ := cut_of_best hm (by omega)
      have hcb := hc.back
      have hc1 := hc.one
      refine ⟨(by decide : 1 ≤ 2), Nat.zero_le 3, ?_, hkd, rfl, ⟨mk, rfl, fun _ => ⟨hc.one, hcb⟩, ?_⟩, ?_, by show mn ≤ 273; omega⟩
      · show fitsZ r (p : Int) 1 (mn : Nat) (mk : Nat) 0 = true
        unfold fitsZ
        simp; omega
      · show growS (D.take p) 1 0 mn mk = D.take (p + max mn 1)
        rw [show max mn 1 = mn by omega]
        exact grow_of_cut mn hc
      · show p + max mn 1 ≤ D.length
        have := hc.fits; omega
    · split
      · rename_i h1 h2 h3
        obtain ⟨l, hl⟩ : ∃ l, backOf D dict (p : Int) r.1 X = l := ⟨_, rfl⟩
        rw [hl] at h3
        obtain ⟨k, hk, hc, hkd, _, _⟩ := cut_of_back hl (by omega)
        have hc' : Cut D p 1 k := ⟨hc.one, hc.back, by have := hc.fits; omega, fun i hi => hc.same i (by omega)⟩
        have hcb := hc.back
        have hdz : distZ r ((2 : Nat) : Int) ((0 : Nat) : Int) ((0 : Nat) : Int) = (k : Int) := hk
        have hra : rAt r 0 = (k : Int) := hk
        refine ⟨Nat.le_refl 2, Nat.zero_le 3, ?_, by rw [hdz]; exact hkd, rfl, ⟨k, hdz, fun _ => ⟨hc.one, hcb⟩, ?_⟩, ?_, by show 1 ≤ 273; decide⟩
        · show fitsZ r (p : Int) 2 1 0 0 = true
          unfold fitsZ
          rw [hra]
          simp; omega
        · show growS (D.take p) 2 0 1 k = D.take (p + max 1 1)
          exact grow_of_cut 1 hc'
        · show p + max 1 1 ≤ D.length
          omega
      · refine ⟨Nat.zero_le 2, Nat.zero_le 3, rfl, by show (0 : Int) ≤ dict; omega, rfl, ⟨0, rfl, fun h => absurd rfl h, ?_⟩, ?_, Nat.zero_le _⟩
        · show D.take p ++ [D.getD p 0] = D.take (p + max 0 1)
          rw [show max 0 1 = 1 from rfl, List.take_add_one, getD_of hp, List.getElem?_eq_getElem hp]; rfl
        · show p + max 0 1 ≤ D.length
          omega
end Go.Proofs.Ytnglkipjiojipaa
