/- Several texts in one: PaLawM, ChkStands, PaSyms. -/
import Derived.Test.YtkckjjchfccdjaaMg13
import Derived.Test.YtkckjjchfccdjaaMg17
import Derived.Test.YtkckjjchfccdjaaMg23
/- What the parser yields stands for the bytes: the mathematics. -/
namespace Go.Proofs.Ytkckjjchfccdjaa
set_option maxRecDepth 100000
open Go.RowKit

structure Cut (D : List UInt8) (p l k : Nat) : Prop where
  one : 1 ≤ k
  back : k ≤ p
  fits : p + l ≤ D.length
  same : ∀ i, i < l → D.getD (p + i) 0 = D.getD (p + i - k) 0
theorem cut_of_len {D : List UInt8} {p k L l : Nat} (h1 : 1 ≤ k) (h2 : k ≤ p) (hL : p + L ≤ D.length) (h : eqLen D p (p - k) L = l) : Cut D p l k := by
  have hl := isLen_eqLen D L p (p - k)
  rw [h] at hl
  exact ⟨h1, h2, by have := hl.le; omega, fun i hi => by rw [hl.eq i hi]; congr 1; omega⟩
theorem cut_of_back {D : List UInt8} {dict dist most : Int} {p l : Nat} (h : backOf D dict (p : Int) dist most = l) (hl : 0 < l) : ∃ k : Nat, dist = (k : Int) ∧ Cut D p l k ∧ (k : Int) ≤ dict ∧ l ≤ 273 ∧ (l : Int) ≤ most := by
  unfold backOf at h
  split at h
  · rename_i hc
    obtain ⟨k, rfl⟩ : ∃ k : Nat, dist = (k : Int) := ⟨dist.toNat, by omega⟩
    simp only [Int.toNat_natCast] at h
    have hlim : lim D p (min 273 most) = (min (min 273 most) ((D.length : Int) - (p : Int))).toNat := rfl
    have hle := eqLen_le D p (p - k) (lim D p (min 273 most))
    exact ⟨k, rfl, cut_of_len (by omega) (by omega) (by omega) h, hc.2.2.2.2, by omega, by omega⟩
  · omega
theorem cut_of_best {D : List UInt8} {dict nice most : Int} {p n k : Nat} (h : bestV D dict nice (p : Int) most = (n, k)) (hn : 0 < n) : 2 ≤ n ∧ (n : Int) ≤ nice ∧ Cut D p n k ∧ (k : Int) ≤ dict ∧ (n : Int) ≤ most := by
  unfold bestV at h
  split at h
  · rename_i hc
    rw [Int.toNat_natCast] at h
    unfold bestOf at h
    have hB := bestTo_is (fun k => eqLen D p (p - k) (lim D p (min nice most))) (min (p : Int) dict).toNat
    split at h
    · injection h with h _; omega
    · rename_i h2
      rw [h] at hB h2
      rcases hB.at_ with ⟨e, _⟩ | ⟨h1, h3, h4, h5⟩
      · simp only at e; omega
      · simp only at h1 h3 h4 h5 h2
        have hlim : lim D p (min nice most) = (min (min nice most) ((D.length : Int) - (p : Int))).toNat := rfl
        have hle := eqLen_le D p (p - k) (lim D p (min nice most))
        exact ⟨by omega, by omega, cut_of_len h1 (by omega) (by omega) h4, by omega, by omega⟩
  · injection h with h _; omega
theorem firstTo_at {g : Nat → Nat} : ∀ n, (firstTo g n).1 = 0 ∨ g (firstTo g n).2 = (firstTo g n).1
  | 0 => .inl rfl
  | n + 1 => by
    unfold firstTo
    split
    · exact .inr rfl
    · exact firstTo_at n
theorem grow_of_cut {D : List UInt8} {p k : Nat} : ∀ (l : Nat), Cut D p l k → growN (D.take p) k l = D.take (p + l)
  | 0, _ => rfl
  | l + 1, h => by
    have ih := grow_of_cut (D := D) (p := p) (k := k) l ⟨h.one, h.back, by have := h.fits; omega, fun i hi => h.same i (by omega)⟩
    have hf := h.fits
    have h1 := h.one
    have hb := h.back
    unfold growN
    rw [ih]
    have e : (D.take (p + l)).length = p + l := by rw [List.length_take]; omega
    rw [e]
    have e2 : (D.take (p + l)).getD (p + l - k) 0 = D.getD (p + l) 0 := by
      rw [h.same l (by omega)]
      simp only [List.getD_eq_getElem?_getD]
      rw [List.getElem?_take_of_lt (by omega)]
    rw [e2, ← Nat.add_assoc, List.take_add_one, getD_of (by omega), List.getElem?_eq_getElem (by omega)]
    rfl
/-- What the law asks of a symbol. -/
structure Stands (D : List UInt8) (dict : Int) (p : Nat) (r : R4) (s : Sy) : Prop where
  k : s.k ≤ 2
  q : s.r ≤ 3
  fits : fitsZ r (p : Int) (s.k : Nat) (s.l : Nat) (s.d : Nat) (s.r : Nat) = true
  near : distZ r (s.k : Nat) (s.d : Nat) (s.r : Nat) ≤ dict
  plain : plainZ (s.k : Nat) s.b (s.l : Nat) (s.d : Nat) (s.r : Nat) = s.val
  back : ∃ n : Nat, distZ r (s.k : Nat) (s.d : Nat) (s.r : Nat) = (n : Int) ∧ (((s.k : Nat) : Int) ≠ 0 → 1 ≤ n ∧ n ≤ p) ∧ growS (D.take p) (s.k : Nat) s.b s.l n = D.take (p + max s.l 1)
  grows : p + max s.l 1 ≤ D.length
  short : s.l ≤ 273
theorem repsAfter_after (s : Sy) (hk : s.k ≤ 2) (r : R4) : repsAfter r (s.k : Nat) (s.d : Nat) (s.r : Nat) = afterS s r := by
  obtain ⟨k, b, l, d, q⟩ := s
  simp only at hk
  rcases (by omega : k = 0 ∨ k = 1 ∨ k = 2) with rfl | rfl | rfl
  · rfl
  · rfl
  · unfold repsAfter afterS
    rw [if_neg (show ¬ ((2 : Nat) : Int) = 0 by decide), if_neg (show ¬ ((2 : Nat) : Int) = 1 by decide), if_neg (show ¬ 2 = 0 by decide), if_neg (show ¬ 2 = 1 by decide)]
    simp only
    match q with
    | 0 => rfl
    | 1 => rfl
    | 2 => rfl
    | q + 3 =>
      rw [if_neg (by omega), if_neg (by omega), if_neg (by omega)]; rfl
theorem r4_at (r : R4) (q : Nat) : rAt r (q : Int) = r4 r.1 r.2.1 r.2.2.1 r.2.2.2 q := by
  unfold rAt; rw [Int.toNat_natCast]
theorem next_stands {D : List UInt8} {dict nice : Int} {p : Nat} {r : R4} (hp : p < D.length) (hD : D.length ≤ 100000) (hdict : 1 ≤ dict) (hn : nice ≤ 273) : Stands D dict p r (nextS D dict nice D.length p r) := by
  unfold nextS chooseS
  obtain ⟨X, hX⟩ : ∃ X : Int, (D.length : Int) - (p : Int) = X := ⟨_, rfl⟩
  rw [hX]
  obtain ⟨⟨rn, rw_⟩, hr⟩ : ∃ z, bestRep D dict (p : Int) X r.1 r.2.1 r.2.2.1 r.2.2.2 = z := ⟨_, rfl⟩
  obtain ⟨⟨mn, mk⟩, hm⟩ : ∃ z, bestV D dict nice (p : Int) X = z := ⟨_, rfl⟩
  rw [hr, hm]
  simp only
  split
  · rename_i h1
    have hlt : rw_ < 4 := by
      have := firstTo_lt (g := fun i => backOf D dict (p : Int) (r4 r.1 r.2.1 r.2.2.1 r.2.2.2 i) X) 4 (by decide)
      unfold bestRep at hr; rw [hr] at this; exact this
    have hat : backOf D dict (p : Int) (r4 r.1 r.2.1 r.2.2.1 r.2.2.2 rw_) X = rn := by
      have := firstTo_at (g := fun i => backOf D dict (p : Int) (r4 r.1 r.2.1 r.2.2.1 r.2.2.2 i) X) 4
      unfold bestRep at hr; rw [hr] at this
      rcases this with e | e
      · simp only at e; omega
      · exact e
    obtain ⟨k, hk, hc, hkd, hl, hm2⟩ := cut_of_back hat (by omega)
    have hra := r4_at r rw_
    rw [hk] at hra
    have hcb := hc.back
    have hdz : distZ r ((2 : Nat) : Int) ((0 : Nat) : Int) (rw_ : Nat) = (k : Int) := hra
    refine ⟨Nat.le_refl 2, by show rw_ ≤ 3; omega, ?_, by rw [hdz]; exact hkd, rfl, ⟨k, hdz, fun _ => ⟨hc.one, hcb⟩, ?_⟩, ?_, hl⟩
    · show fitsZ r (p : Int) 2 (rn : Nat) 0 (rw_ : Nat) = true
      unfold fitsZ
      rw [hra]
      simp; omega
    · show growS (D.take p) 2 0 rn k = D.take (p + max rn 1)
      rw [show max rn 1 = rn by omega]
      exact grow_of_cut rn hc
    · show p + max rn 1 ≤ D.length
      have := hc.fits; omega
  · split
    · rename_i h1 h2
      obtain ⟨g2, g3, hc, hkd, _⟩ := cut_of_best hm (by omega)
      have hcb := hc.back
      have hc1 := hc.one
      refine ⟨(by decide : 1 ≤ 2), Nat.zero_le 3, ?_, hkd, rfl, ⟨mk, rfl, fun _ => ⟨hc.one, hcb⟩, ?_⟩, ?_, by show mn ≤ 273; omega⟩
      · show fitsZ r (p : Int) 1 (mn : Nat) (mk : Nat) 0 = true
        unfold fitsZ
        simp; omega
      · show growS (D.take p) 1 0 mn mk = D.take (p + max mn 1)
        rw [show max mn 1 = mn by omega]
        exact grow_of_cut mn hc
      · show p + max mn 1 ≤ D.length
        have := hc.fits; omega
    · split
      · rename_i h1 h2 h3
        obtain ⟨l, hl⟩ : ∃ l, backOf D dict (p : Int) r.1 X = l := ⟨_, rfl⟩
        rw [hl] at h3
        obtain ⟨k, hk, hc, hkd, _, _⟩ := cut_of_back hl (by omega)
        have hc' : Cut D p 1 k := ⟨hc.one, hc.back, by have := hc.fits; omega, fun i hi => hc.same i (by omega)⟩
        have hcb := hc.back
        have hdz : distZ r ((2 : Nat) : Int) ((0 : Nat) : Int) ((0 : Nat) : Int) = (k : Int) := hk
        have hra : rAt r 0 = (k : Int) := hk
        refine ⟨Nat.le_refl 2, Nat.zero_le 3, ?_, by rw [hdz]; exact hkd, rfl, ⟨k, hdz, fun _ => ⟨hc.one, hcb⟩, ?_⟩, ?_, by show 1 ≤ 273; decide⟩
        · show fitsZ r (p : Int) 2 1 0 0 = true
          unfold fitsZ
          rw [hra]
          simp; omega
        · show growS (D.take p) 2 0 1 k = D.take (p + max 1 1)
          exact grow_of_cut 1 hc'
        · show p + max 1 1 ≤ D.length
          omega
      · refine ⟨Nat.zero_le 2, Nat.zero_le 3, rfl, by show (0 : Int) ≤ dict; omega, rfl, ⟨0, rfl, fun h => absurd rfl h, ?_⟩, ?_, Nat.zero_le _⟩
        · show D.take p ++ [D.getD p 0] = D.take (p + max 0 1)
          rw [show max 0 1 = 1 from rfl, List.take_add_one, getD_of hp, List.getElem?_eq_getElem hp]; rfl
        · show p + max 0 1 ≤ D.length
          omega
end Go.Proofs.Ytkckjjchfccdjaa

/- What the parser yields of a part stands for it. -/
namespace Go.Proofs.Ytkckjjchfccdjaa
set_option maxRecDepth 100000
open Go.RowKit

theorem next_stands_to {D : List UInt8} {dict nice : Int} {tt p : Nat} {r : R4} (hp : p < tt) (ht : tt ≤ D.length) (hD : D.length ≤ 100000) (hdict : 1 ≤ dict) (hn : nice ≤ 273) : Stands D dict p r (nextS D dict nice tt p r) := by
  unfold nextS chooseS
  obtain ⟨X, hX⟩ : ∃ X : Int, (tt : Int) - (p : Int) = X := ⟨_, rfl⟩
  rw [hX]
  obtain ⟨⟨rn, rw_⟩, hr⟩ : ∃ z, bestRep D dict (p : Int) X r.1 r.2.1 r.2.2.1 r.2.2.2 = z := ⟨_, rfl⟩
  obtain ⟨⟨mn, mk⟩, hm⟩ : ∃ z, bestV D dict nice (p : Int) X = z := ⟨_, rfl⟩
  rw [hr, hm]
  simp only
  split
  · rename_i h1
    have hlt : rw_ < 4 := by
      have := firstTo_lt (g := fun i => backOf D dict (p : Int) (r4 r.1 r.2.1 r.2.2.1 r.2.2.2 i) X) 4 (by decide)
      unfold bestRep at hr; rw [hr] at this; exact this
    have hat : backOf D dict (p : Int) (r4 r.1 r.2.1 r.2.2.1 r.2.2.2 rw_) X = rn := by
      have := firstTo_at (g := fun i => backOf D dict (p : Int) (r4 r.1 r.2.1 r.2.2.1 r.2.2.2 i) X) 4
      unfold bestRep at hr; rw [hr] at this
      rcases this with e | e
      · simp only at e; omega
      · exact e
    obtain ⟨k, hk, hc, hkd, hl, hm2⟩ := cut_of_back hat (by omega)
    have hra := r4_at r rw_
    rw [hk] at hra
    have hcb := hc.back
    have hdz : distZ r ((2 : Nat) : Int) ((0 : Nat) : Int) (rw_ : Nat) = (k : Int) := hra
    refine ⟨Nat.le_refl 2, by show rw_ ≤ 3; omega, ?_, by rw [hdz]; exact hkd, rfl, ⟨k, hdz, fun _ => ⟨hc.one, hcb⟩, ?_⟩, ?_, hl⟩
    · show fitsZ r (p : Int) 2 (rn : Nat) 0 (rw_ : Nat) = true
      unfold fitsZ
      rw [hra]
      simp; omega
    · show growS (D.take p) 2 0 rn k = D.take (p + max rn 1)
      rw [show max rn 1 = rn by omega]
      exact grow_of_cut rn hc
    · show p + max rn 1 ≤ D.length
      have := hc.fits; omega
  · split
    · rename_i h1 h2
      obtain ⟨g2, g3, hc, hkd, _⟩ := cut_of_best hm (by omega)
      have hcb := hc.back
      have hc1 := hc.one
      refine ⟨(by decide : 1 ≤ 2), Nat.zero_le 3, ?_, hkd, rfl, ⟨mk, rfl, fun _ => ⟨hc.one, hcb⟩, ?_⟩, ?_, by show mn ≤ 273; omega⟩
      · show fitsZ r (p : Int) 1 (mn : Nat) (mk : Nat) 0 = true
        unfold fitsZ
        simp; omega
      · show growS (D.take p) 1 0 mn mk = D.take (p + max mn 1)
        rw [show max mn 1 = mn by omega]
        exact grow_of_cut mn hc
      · show p + max mn 1 ≤ D.length
        have := hc.fits; omega
    · split
      · rename_i h1 h2 h3
        obtain ⟨l, hl⟩ : ∃ l, backOf D dict (p : Int) r.1 X = l := ⟨_, rfl⟩
        rw [hl] at h3
        obtain ⟨k, hk, hc, hkd, _, _⟩ := cut_of_back hl (by omega)
        have hc' : Cut D p 1 k := ⟨hc.one, hc.back, by have := hc.fits; omega, fun i hi => hc.same i (by omega)⟩
        have hcb := hc.back
        have hdz : distZ r ((2 : Nat) : Int) ((0 : Nat) : Int) ((0 : Nat) : Int) = (k : Int) := hk
        have hra : rAt r 0 = (k : Int) := hk
        refine ⟨Nat.le_refl 2, Nat.zero_le 3, ?_, by rw [hdz]; exact hkd, rfl, ⟨k, hdz, fun _ => ⟨hc.one, hcb⟩, ?_⟩, ?_, by show 1 ≤ 273; decide⟩
        · show fitsZ r (p : Int) 2 1 0 0 = true
          unfold fitsZ
          rw [hra]
          simp; omega
        · show growS (D.take p) 2 0 1 k = D.take (p + max 1 1)
          exact grow_of_cut 1 hc'
        · show p + max 1 1 ≤ D.length
          omega
      · refine ⟨Nat.zero_le 2, Nat.zero_le 3, rfl, by show (0 : Int) ≤ dict; omega, rfl, ⟨0, rfl, fun h => absurd rfl h, ?_⟩, ?_, Nat.zero_le _⟩
        · show D.take p ++ [D.getD p 0] = D.take (p + max 0 1)
          rw [show max 0 1 = 1 from rfl, List.take_add_one, getD_of (Nat.lt_of_lt_of_le hp ht), List.getElem?_eq_getElem (Nat.lt_of_lt_of_le hp ht)]; rfl
        · show p + max 0 1 ≤ D.length
          omega
theorem next_to {D : List UInt8} {dict nice : Int} {tt p : Nat} {r : R4} (hp : p < tt) : p + max (nextS D dict nice tt p r).l 1 ≤ tt := by
  unfold nextS chooseS
  obtain ⟨X, hX⟩ : ∃ X : Int, (tt : Int) - (p : Int) = X := ⟨_, rfl⟩
  rw [hX]
  obtain ⟨⟨rn, rw_⟩, hr⟩ : ∃ z, bestRep D dict (p : Int) X r.1 r.2.1 r.2.2.1 r.2.2.2 = z := ⟨_, rfl⟩
  obtain ⟨⟨mn, mk⟩, hm⟩ : ∃ z, bestV D dict nice (p : Int) X = z := ⟨_, rfl⟩
  rw [hr, hm]
  simp only
  split
  · rename_i h1
    have hat : backOf D dict (p : Int) (r4 r.1 r.2.1 r.2.2.1 r.2.2.2 rw_) X = rn := by
      have := firstTo_at (g := fun i => backOf D dict (p : Int) (r4 r.1 r.2.1 r.2.2.1 r.2.2.2 i) X) 4
      unfold bestRep at hr; rw [hr] at this
      rcases this with e | e
      · simp only at e; omega
      · exact e
    obtain ⟨k, hk, hc, hkd, hl, hm2⟩ := cut_of_back hat (by omega)
    show p + max rn 1 ≤ tt
    omega
  · split
    · rename_i h1 h2
      obtain ⟨g2, g3, hc, hkd, hm2⟩ := cut_of_best hm (by omega)
      show p + max mn 1 ≤ tt
      omega
    · split
      · show p + max 1 1 ≤ tt
        omega
      · show p + max 0 1 ≤ tt
        omega
end Go.Proofs.Ytkckjjchfccdjaa

/- The parser's Symbols. -/
namespace Go.Proofs.Ytkckjjchfccdjaa
set_option maxRecDepth 100000
open Go.RowKit

abbrev rc (r : R4) : List Value := [.int .i64 r.1, .int .i64 r.2.1, .int .i64 r.2.2.1, .int .i64 r.2.2.2]
structure SymI (w : World) (b5 b6 b8 b9 b11 base : Nat) (F : Nat) (DA : Option Addr) (cd len tt : Nat) (r : R4) (L : List Sy) (v : Value) (W : World) : Prop where
  below : Below w.heap.size w W
  f : BoxAt b5 W (PF F)
  data : BoxAt b6 W (.slice DA len cd)
  to_ : BoxAt b8 W (.int .i64 (tt : Nat))
  reps : W.heap[b9]? = some (.cells (rc r).toArray 103 (0, 0))
  res : W.heap[b11]? = some (.cells (rc (0, 0, 0, 0)).toArray 103 (0, 0))
  own : OwnS base W v L
  big : base ≤ W.heap.size
section
variable {w W W' : World} {b5 b6 b8 b9 b11 base F : Nat} {DA : Option Addr} {cd len tt : Nat} {r : R4} {L : List Sy} {v : Value}
theorem SymI.step (h : SymI w b5 b6 b8 b9 b11 base F DA cd len tt r L v W) (hb : Below W.heap.size W W') : SymI w b5 b6 b8 b9 b11 base F DA cd len tt r L v W' :=
  ⟨h.below.trans (hb.mono h.below.size), h.f.keep (hb.block _ h.f.lt), h.data.keep (hb.block _ h.data.lt), h.to_.keep (hb.block _ h.to_.lt), (hb.block _ (Array.getElem?_eq_some_iff.1 h.reps).1).trans h.reps, (hb.block _ (Array.getElem?_eq_some_iff.1 h.res).1).trans h.res, h.own.below hb, Nat.le_trans h.big hb.size⟩
theorem SymI.append (h : SymI w b5 b6 b8 b9 b11 base F DA cd len tt r L v W) (hlt : w.heap.size ≤ base ∧ b5 < base ∧ b6 < base ∧ b8 < base ∧ b9 < base ∧ b11 < base) (hg : W.grownBy W' v.ownBlock) {v' : Value} {L' : List Sy} (ho : OwnS base W' v' L') : SymI w b5 b6 b8 b9 b11 base F DA cd len tt r L' v' W' := by
  have k : ∀ b, b < base → W'.heap[b]? = W.heap[b]? := fun b hb => hg.block b (Nat.lt_of_lt_of_le hb h.big) (fun e => by have := (h.own.lt b e.symm).1; omega)
  exact ⟨below_grown h.below hg h.below.size (fun g e => Nat.le_trans hlt.1 (h.own.lt g e).1), h.f.keep (k _ hlt.2.1), h.data.keep (k _ hlt.2.2.1), h.to_.keep (k _ hlt.2.2.2.1), (k _ hlt.2.2.2.2.1).trans h.reps, (k _ hlt.2.2.2.2.2).trans h.res, ho, Nat.le_trans h.big hg.size⟩
theorem SymI.cells (h : SymI w b5 b6 b8 b9 b11 base F DA cd len tt r L v W) : W.cell? ⟨b5, 0, none⟩ = some (PF F) ∧ W.cell? ⟨b6, 0, none⟩ = some (.slice DA len cd) ∧ W.cell? ⟨b8, 0, none⟩ = some (.int .i64 (tt : Nat)) ∧
    (W.cell? ⟨b9, 0, none⟩ = some (.int .i64 r.1) ∧ W.cell? ⟨b9, 1, none⟩ = some (.int .i64 r.2.1) ∧ W.cell? ⟨b9, 2, none⟩ = some (.int .i64 r.2.2.1) ∧ W.cell? ⟨b9, 3, none⟩ = some (.int .i64 r.2.2.2)) ∧
    (W.cell? ⟨b11, 0, none⟩ = some (.int .i64 0) ∧ W.cell? ⟨b11, 1, none⟩ = some (.int .i64 0) ∧ W.cell? ⟨b11, 2, none⟩ = some (.int .i64 0) ∧ W.cell? ⟨b11, 3, none⟩ = some (.int .i64 0)) ∧
    (∀ i, W.frozen? ⟨b9, i, none⟩ = false) ∧ (∀ i, W.frozen? ⟨b11, i, none⟩ = false) := by
  refine ⟨h.f.cell, h.data.cell, h.to_.cell, ⟨?_, ?_, ?_, ?_⟩, ⟨?_, ?_, ?_, ?_⟩, fun i => frozen_of_row _ _ _ _ _ h.reps, fun i => frozen_of_row _ _ _ _ _ h.res⟩
  · rw [cell_of_row W _ _ _ _ _ h.reps]; rfl
  · rw [cell_of_row W _ _ _ _ _ h.reps]; rfl
  · rw [cell_of_row W _ _ _ _ _ h.reps]; rfl
  · rw [cell_of_row W _ _ _ _ _ h.reps]; rfl
  · rw [cell_of_row W _ _ _ _ _ h.res]; rfl
  · rw [cell_of_row W _ _ _ _ _ h.res]; rfl
  · rw [cell_of_row W _ _ _ _ _ h.res]; rfl
  · rw [cell_of_row W _ _ _ _ _ h.res]; rfl
/-- Four stores into the box of the repeats. -/
theorem SymI.store (h : SymI w b5 b6 b8 b9 b11 base F DA cd len tt r L v W) (hlt : w.heap.size ≤ b9 ∧ b9 < base) (hne : b5 ≠ b9 ∧ b6 ≠ b9 ∧ b8 ≠ b9 ∧ b11 ≠ b9) (q : R4) :
    SymI w b5 b6 b8 b9 b11 base F DA cd len tt q L v ((((W.setCell ⟨b9, 0, none⟩ (.int .i64 q.1)).setCell ⟨b9, 1, none⟩ (.int .i64 q.2.1)).setCell ⟨b9, 2, none⟩ (.int .i64 q.2.2.1)).setCell ⟨b9, 3, none⟩ (.int .i64 q.2.2.2)) := by
  have k : ∀ b, b ≠ b9 → ((((W.setCell ⟨b9, 0, none⟩ (.int .i64 q.1)).setCell ⟨b9, 1, none⟩ (.int .i64 q.2.1)).setCell ⟨b9, 2, none⟩ (.int .i64 q.2.2.1)).setCell ⟨b9, 3, none⟩ (.int .i64 q.2.2.2)).heap[b]? = W.heap[b]? := fun b hb => by
    rw [heap_setCell_other _ _ _ _ hb, heap_setCell_other _ _ _ _ hb, heap_setCell_other _ _ _ _ hb, heap_setCell_other _ _ _ _ hb]
  refine ⟨(((h.below.setCell (p := ⟨b9, 0, none⟩) hlt.1 _).setCell (p := ⟨b9, 1, none⟩) hlt.1 _).setCell (p := ⟨b9, 2, none⟩) hlt.1 _).setCell (p := ⟨b9, 3, none⟩) hlt.1 _, h.f.keep (k _ hne.1), h.data.keep (k _ hne.2.1), h.to_.keep (k _ hne.2.2.1), heap_set (heap_set (heap_set (heap_set h.reps 0 _) 1 _) 2 _) 3 _, (k _ hne.2.2.2).trans h.res, h.own.keep fun g hg => k g (by have := (h.own.lt g hg).1; omega), ?_⟩
  have := h.big
  simpa [World.setCell] using this
end
def SymsDone (L : List Sy) (r : R4) (w : World) (e : Ending) (w' : World) : Prop := ∃ v, e = .returned (.tuple #[v, r.val, .int .i64 0]) ∧ OwnS w.heap.size w' v L ∧ Below w.heap.size w w'
theorem boxesS {w W : World} {v0 v1 v2 : Value} {t0 t1 t2 t3 : TypeId} {r : R4} (hW : ((((w.alloc (.cells #[v0] t0)).alloc (.cells #[v1] t1)).alloc (.cells #[v2] t2)).alloc (.cells #[.int .i64 r.1, .int .i64 r.2.1, .int .i64 r.2.2.1, .int .i64 r.2.2.2] t3)).alloc (.cells #[.int .i64 0, .int .i64 0, .int .i64 0, .int .i64 0] t3) = W) :
    Below w.heap.size w W ∧ BoxAt w.heap.size W v0 ∧ BoxAt (w.heap.size + 1) W v1 ∧ BoxAt (w.heap.size + 1 + 1) W v2 ∧ W.heap[w.heap.size + 1 + 1 + 1]? = some (.cells (rc r).toArray t3 (0, 0)) ∧ W.heap[w.heap.size + 1 + 1 + 1 + 1]? = some (.cells (rc (0, 0, 0, 0)).toArray t3 (0, 0)) ∧ W.heap.size = w.heap.size + 1 + 1 + 1 + 1 + 1 := by
  subst hW
  have up : ∀ {b : Nat} {W : World} {o' : Obj} (o : Obj), W.heap[b]? = some o' → (W.alloc o).heap[b]? = some o' := fun o h => (Below.heap_alloc _ _ _ (Array.getElem?_eq_some_iff.1 h).1).trans h
  have upB : ∀ {b : Nat} {W : World} {v : Value} (o : Obj), BoxAt b W v → BoxAt b (W.alloc o) v := fun o h => h.keep (Below.heap_alloc _ _ _ h.lt)
  have mk : ∀ (W : World) (v : Value) (t : TypeId) (b : Nat), b = W.heap.size → BoxAt b (W.alloc (.cells #[v] t)) v := fun W v t b e => by subst e; exact BoxAt.made W v t
  have mk2 : ∀ (W : World) (o : Obj) (b : Nat), b = W.heap.size → (W.alloc o).heap[b]? = some o := fun W o b e => by subst e; exact heap_alloc_last W o
  refine ⟨?_, upB _ (upB _ (upB _ (upB _ (mk _ _ _ _ rfl)))), upB _ (upB _ (upB _ (mk _ _ _ _ (by simp)))), upB _ (upB _ (mk _ _ _ _ (by simp))), up _ (mk2 _ _ _ (by simp)), mk2 _ _ _ (by simp), by simp⟩
  refine Below.alloc ?_ (by simp; omega) _
  refine Below.alloc ?_ (by simp; omega) _
  refine Below.alloc ?_ (by simp; omega) _
  refine Below.alloc ?_ (by simp) _
  exact (Below.refl _ _).alloc (Nat.le_refl _) _
set_option maxRecDepth 100000 in
set_option maxHeartbeats 1000000 in
theorem Symbols_any (F : Nat) (A DA : Option Addr) (cF cd : Nat) (D : List UInt8) (dict nice : Int) (mp B : Nat) (p0 tt : Nat) (r : R4) (w : World)
    (hR : Ready w F A cF D dict nice mp B) (hD : Bytes w DA D) (hcd : D.length ≤ cd) (hp : p0 ≤ tt) (hto : tt ≤ D.length) :
    Calls Try.prog 46 #[PF F, .slice DA D.length cd, .int .i64 (p0 : Nat), .int .i64 (tt : Nat), r.val] w (SymsDone (symsOf D dict nice tt (tt - p0) p0 r).1 (symsOf D dict nice tt (tt - p0) p0 r).2 w) := by
  have hsm := hR.at_.small
  have hpi : (p0 : Int) ≤ (tt : Int) := by omega
  have hti : (tt : Int) ≤ (D.length : Int) := by omega
  have hdi : (D.length : Int) ≤ 100000 := by omega
  have hcc : (D.length : Int) ≤ (cd : Int) := by omega
  obtain ⟨⟨LS, rS⟩, hS⟩ : ∃ q, symsOf D dict nice tt (tt - p0) p0 r = q := ⟨_, rfl⟩
  rw [hS]
  have HS := Lib.hid hS
  have HR := Lib.hid hR
  have HD := Lib.hid hD
  have HCD := Lib.hid hcd
  have HP := Lib.hid hp
  clear hR hD hcd hp hS hsm
  go_enter Try.func46, Try.ntmps46
  go_upto_region 1 with fail
  generalize hW : ((((w.alloc _).alloc _).alloc _).alloc _).alloc _ = W
  obtain ⟨hb, x5, x6, x8, x9, x11, hsz⟩ := boxesS hW
  have hI : SymI w w.heap.size (w.heap.size + 1) (w.heap.size + 1 + 1) (w.heap.size + 1 + 1 + 1) (w.heap.size + 1 + 1 + 1 + 1) (w.heap.size + 1 + 1 + 1 + 1 + 1) F DA cd D.length tt r [] (.slice none 0 0) W :=
    ⟨hb, x5, x6, x8, x9, x11, OwnS.nil _ _, by rw [hsz]; exact Nat.le_refl _⟩
  have hord : w.heap.size ≤ w.heap.size + 1 + 1 + 1 + 1 + 1 ∧ w.heap.size < w.heap.size + 1 + 1 + 1 + 1 + 1 ∧ w.heap.size + 1 < w.heap.size + 1 + 1 + 1 + 1 + 1 ∧ w.heap.size + 1 + 1 < w.heap.size + 1 + 1 + 1 + 1 + 1 ∧ w.heap.size + 1 + 1 + 1 < w.heap.size + 1 + 1 + 1 + 1 + 1 ∧ w.heap.size + 1 + 1 + 1 + 1 < w.heap.size + 1 + 1 + 1 + 1 + 1 := by omega
  have hne : (w.heap.size ≠ w.heap.size + 1 + 1 + 1 ∧ w.heap.size + 1 ≠ w.heap.size + 1 + 1 + 1 ∧ w.heap.size + 1 + 1 ≠ w.heap.size + 1 + 1 + 1 ∧ w.heap.size + 1 + 1 + 1 + 1 ≠ w.heap.size + 1 + 1 + 1) ∧ w.heap.size ≤ w.heap.size + 1 + 1 + 1 ∧ w.heap.size ≤ w.heap.size + 1 + 1 + 1 + 1 := by omega
  clear hb x5 x6 x8 x9 x11 hsz hW
  obtain ⟨base, e0⟩ : ∃ b, w.heap.size + 1 + 1 + 1 + 1 + 1 = b := ⟨_, rfl⟩
  obtain ⟨b11, e1⟩ : ∃ b, w.heap.size + 1 + 1 + 1 + 1 = b := ⟨_, rfl⟩
  obtain ⟨b9, e2⟩ : ∃ b, w.heap.size + 1 + 1 + 1 = b := ⟨_, rfl⟩
  obtain ⟨b8, e3⟩ : ∃ b, w.heap.size + 1 + 1 = b := ⟨_, rfl⟩
  obtain ⟨b6, e4⟩ : ∃ b, w.heap.size + 1 = b := ⟨_, rfl⟩
  rw [e0] at hI hord
  rw [e1] at hI hord hne ⊢
  rw [e2] at hI hord hne ⊢
  rw [e3] at hI hord hne ⊢
  rw [e4] at hI hord hne ⊢
  clear e0 e1 e2 e3 e4
  obtain ⟨b5, e5⟩ : ∃ b, w.heap.size = b := ⟨_, rfl⟩
  have hI5 : SymI w b5 b6 b8 b9 b11 base F DA cd D.length tt r [] (.slice none 0 0) W := by rw [← e5]; exact hI
  have hord5 : w.heap.size ≤ base ∧ b5 < base ∧ b6 < base ∧ b8 < base ∧ b9 < base ∧ b11 < base := by rw [← e5]; exact hord
  have hne5 : (b5 ≠ b9 ∧ b6 ≠ b9 ∧ b8 ≠ b9 ∧ b11 ≠ b9) ∧ w.heap.size ≤ b9 ∧ w.heap.size ≤ b11 := by rw [← e5]; exact hne
  have HB : Hid (∀ (W' : World) (o : Nat), w.heap.size ≤ o → OwnS base W' (.slice none 0 0) []) := Lib.hid (fun _ _ _ => OwnS.nil _ _)
  rw [e5]
  have HORD := Lib.hid hord5
  have HNE := Lib.hid hne5
  have HI := Lib.hid hI5
  have H5 := Lib.hid e5
  clear hI hord hne hord5 hne5 e5 hI5 HB
  obtain ⟨c5, c6, c8, ⟨c90, c91, c92, c93⟩, _, _, _⟩ := HI.out.cells
  have e00 : decide ((p0 : Int) < 0) = false := decide_eq_false (by omega)
  have e03 : decide (tt < p0) = false := decide_eq_false (by omega)
  have e04 : decide (D.length < tt) = false := decide_eq_false (by omega)
  have e01 : decide ((tt : Int) < (p0 : Int)) = false := decide_eq_false (by omega)
  have e02 : decide ((D.length : Int) < (tt : Int)) = false := decide_eq_false (by omega)
  go_wp2_with fail
  go_loopw [14, 15] (fun v i wr => ∃ (p : Nat) (r' : R4) (L : List Sy) (vv : Value), vv = v ∧ i = .int .i64 (p : Nat) ∧ Hid (SymI w b5 b6 b8 b9 b11 base F DA cd D.length tt r' L vv wr) ∧ Hid ((LS, rS) = (L ++ (symsOf D dict nice tt (tt - p) p r').1, (symsOf D dict nice tt (tt - p) p r').2)) ∧ p ≤ 300000 ∧ L.length ≤ p) (fun _ i _ => tt - (intOf i).toNat)
  case atStart => exact ⟨p0, r, [], _, rfl, rfl, HI, Lib.hid (by rw [List.nil_append]; exact HS.out.symm), by omega, Nat.zero_le _⟩
  case round =>
    obtain ⟨p, r', L, v, rfl, rfl, HIR, HSR, hp2, hLp⟩ := hrel
    clear c5 c6 c8 c90 c91 c92 c93
    obtain ⟨c5, c6, c8, ⟨c90, c91, c92, c93⟩, _, _, _⟩ := HIR.out.cells
    by_cases hpt : p < tt
    · have hpti : (p : Int) < (tt : Int) := by omega
      obtain ⟨S, hSd⟩ : ∃ S, nextS D dict nice tt p r' = S := ⟨_, rfl⟩
      have hkr : S.k ≤ 2 ∧ S.r ≤ 3 := by rw [← hSd]; exact chooseS_k _ _ _ _ _ _ _ _ _
      have hl : S.l ≤ 273 + D.length := by rw [← hSd]; exact chooseS_l _ _ _ _ _ _ _ _ _
      have hRr := HR.out.below HIR.out.below
      have hDr := HD.out.below HIR.out.below
      have HCH : Hid (Calls Try.prog 64 #[.int .i64 (p : Nat), PF b8, PF b5, PF b9, PF b6] wr (ChooseDone S wr)) := Lib.hid (by
        rw [← hSd]
        exact pachoose_any b8 b5 b9 b6 F A DA cF cd D dict nice mp B p tt _ _ _ _ wr hRr hDr HCD.out HIR.out.to_ HIR.out.f HIR.out.reps HIR.out.data hpt (by omega))
      have HSS : Hid (symsOf D dict nice tt (tt - p) p r' = (S :: (symsOf D dict nice tt (tt - (p + max S.l 1)) (p + max S.l 1) (afterS S r')).1, (symsOf D dict nice tt (tt - (p + max S.l 1)) (p + max S.l 1) (afterS S r')).2)) := Lib.hid (by rw [symsOf_step hpt, hSd])
      have HKR := Lib.hid hkr
      have hli : (S.l : Int) ≤ 200000 := by omega
      have hLl := hLp
      clear hRr hDr hSd hkr HR HD
      go_wp2_with fail
      refine HCH.out.mono ?_
      rintro e w1 ⟨rfl, hb1⟩
      have HB1 := Lib.hid hb1
      clear hb1
      go_upto_region 8 with fail
      obtain ⟨W2, hW2⟩ : ∃ W2, w1.alloc (.cells #[.int .i64 (S.k : Nat), .int .u8 (S.b.toNat : Nat), .int .i64 (S.l : Nat), .int .i64 (S.d : Nat), .int .i64 (S.r : Nat)] 99) = W2 := ⟨_, rfl⟩
      rw [hW2]
      have hrow2 : W2.heap[w1.heap.size]? = some (.cells (syCells [S]).toArray 99 (0, 0)) := by rw [← hW2]; exact heap_alloc_last _ _
      have hb2 : Below wr.heap.size wr W2 := by rw [← hW2]; exact HB1.out.alloc HB1.out.size _
      obtain ⟨W3, hW3⟩ : ∃ W3, W2.alloc (.cells #[.int .i64 (S.k : Nat), .int .u8 (S.b.toNat : Nat), .int .i64 (S.l : Nat), .int .i64 (S.d : Nat), .int .i64 (S.r : Nat)] 99) = W3 := ⟨_, rfl⟩
      have hrow3 : W3.heap[W2.heap.size]? = some (.cells (syCells [S]).toArray 99 (0, 0)) := by rw [← hW3]; exact heap_alloc_last _ _
      have hb3 : Below wr.heap.size wr W3 := by rw [← hW3]; exact hb2.alloc hb2.size _
      have hlt2 : w1.heap.size < W2.heap.size := (Array.getElem?_eq_some_iff.1 hrow2).1
      have hrow32 : W3.heap[w1.heap.size]? = some (.cells (syCells [S]).toArray 99 (0, 0)) := by rw [← hW3]; exact (Below.heap_alloc _ _ _ hlt2).trans hrow2
      have hI3 := HIR.out.step hb3
      have hvlt : ∀ g, v.ownBlock = some g → g < w1.heap.size := fun g e => Nat.lt_of_lt_of_le (HIR.out.own.lt g e).2 HB1.out.size
      have y0 : W2.cell? ⟨w1.heap.size, 0, none⟩ = some (.int .i64 (S.k : Nat)) := by rw [cell_of_row W2 _ _ _ _ _ hrow2]; rfl
      have y1 : W2.cell? ⟨w1.heap.size, 1, none⟩ = some (.int .u8 (S.b.toNat : Nat)) := by rw [cell_of_row W2 _ _ _ _ _ hrow2]; rfl
      have y2 : W2.cell? ⟨w1.heap.size, 2, none⟩ = some (.int .i64 (S.l : Nat)) := by rw [cell_of_row W2 _ _ _ _ _ hrow2]; rfl
      have y3 : W2.cell? ⟨w1.heap.size, 3, none⟩ = some (.int .i64 (S.d : Nat)) := by rw [cell_of_row W2 _ _ _ _ _ hrow2]; rfl
      have y4 : W2.cell? ⟨w1.heap.size, 4, none⟩ = some (.int .i64 (S.r : Nat)) := by rw [cell_of_row W2 _ _ _ _ _ hrow2]; rfl
      have HW3 := Lib.hid hW3
      have HI3 := Lib.hid hI3
      have HR3 := Lib.hid hrow3
      have HR32 := Lib.hid hrow32
      have HVLT := Lib.hid hvlt
      have HLT2 := Lib.hid hlt2
      have hLm : L.length ≤ 1000000 := by omega
      have HLM := Lib.hid hLm
      clear hW2 hrow2 hb2 hW3 hrow3 hb3 hlt2 hrow32 hI3 hvlt hLm c5 c6 c8 c90 c91 c92 c93
      go_wp2_with (at_builtin; rw [HW3.out]; refine wpList_append_sy rfl (.tmp 43) (.tmp 45) rfl base W3 v L rfl HI3.out.own W2.heap.size 1 S rfl HR3.out HLM.out HI3.out.big ?_; intro v' w4 hown4 hg4; have HG4 := Lib.hid (And.intro hown4 hg4); have hI4 := HI3.out.append HORD.out hg4 hown4; have hrow4 := (hg4.block w1.heap.size (Array.getElem?_eq_some_iff.1 HR32.out).1 (fun e => by have := HVLT.out _ e.symm; omega)).trans HR32.out; have HI4 := Lib.hid hI4; have HR4 := Lib.hid hrow4; obtain ⟨_, _, _, ⟨d0, d1, d2, d3⟩, _, _, _⟩ := hI4.cells; have s0 : w4.cell? ⟨w1.heap.size, 0, none⟩ = some (.int .i64 (S.k : Nat)) := (by rw [cell_of_row w4 _ _ _ _ _ hrow4]; rfl); have s1 : w4.cell? ⟨w1.heap.size, 1, none⟩ = some (.int .u8 (S.b.toNat : Nat)) := (by rw [cell_of_row w4 _ _ _ _ _ hrow4]; rfl); have s2 : w4.cell? ⟨w1.heap.size, 2, none⟩ = some (.int .i64 (S.l : Nat)) := (by rw [cell_of_row w4 _ _ _ _ _ hrow4]; rfl); have s3 : w4.cell? ⟨w1.heap.size, 3, none⟩ = some (.int .i64 (S.d : Nat)) := (by rw [cell_of_row w4 _ _ _ _ _ hrow4]; rfl); have s4 : w4.cell? ⟨w1.heap.size, 4, none⟩ = some (.int .i64 (S.r : Nat)) := (by rw [cell_of_row w4 _ _ _ _ _ hrow4]; rfl); clear hown4 hg4 hI4 hrow4 y0 y1 y2 y3 y4)
      refine (after_any S HKR.out.1 HKR.out.2 r' w4).mono ?_
      rintro e w5 ⟨rfl, hb5⟩
      have hI5 := HI4.out.step hb5
      obtain ⟨_, _, _, ⟨q0, q1, q2, q3⟩, _, qf, _⟩ := hI5.cells
      have hrow5 := (hb5.block _ (Array.getElem?_eq_some_iff.1 HR4.out).1).trans HR4.out
      have u2 : w5.cell? ⟨w1.heap.size, 2, none⟩ = some (.int .i64 (S.l : Nat)) := by rw [cell_of_row w5 _ _ _ _ _ hrow5]; rfl
      have HI6 := Lib.hid (hI5.store ⟨HNE.out.2.1, HORD.out.2.2.2.2.1⟩ HNE.out.1 (afterS S r'))
      have hnb : b9 ≠ w1.heap.size ∧ w1.heap.size ≠ b9 := by
        have h1 : b9 < w1.heap.size := Nat.lt_of_lt_of_le (Array.getElem?_eq_some_iff.1 HIR.out.reps).1 HB1.out.size
        omega
      obtain ⟨nb1, nb2⟩ := hnb
      have qf0 := qf 0
      have qf1 := qf 1
      have qf2 := qf 2
      have qf3 := qf 3
      clear hb5 hI5 hrow5 d0 d1 d2 d3 s0 s1 s2 s3 s4 qf
      have HSR2 : Hid ((LS, rS) = ((L ++ [S]) ++ (symsOf D dict nice tt (tt - (p + max S.l 1)) (p + max S.l 1) (afterS S r')).1, (symsOf D dict nice tt (tt - (p + max S.l 1)) (p + max S.l 1) (afterS S r')).2)) := Lib.hid (by
        rw [HSR.out, HSS.out]; simp)
      go_wp2_with fail
      exact ⟨⟨p + max S.l 1, afterS S r', L ++ [S], _, rfl, by congr 1; omega, HI6, HSR2, by omega, by rw [List.length_append, List.length_singleton]; omega⟩, by simp [intOf]; omega⟩
    · have hpti : ¬ (p : Int) < (tt : Int) := by omega
      have HE : Hid (LS = L ∧ rS = r') := Lib.hid (by
        have := HSR.out
        rw [symsOf_end hpt] at this
        simpa using this)
      obtain ⟨_, _, _, _, ⟨n0, n1, n2, n3⟩, _, nf⟩ := HIR.out.cells
      have nf0 := nf 0
      have nf1 := nf 1
      have nf2 := nf 2
      have nf3 := nf 3
      clear nf
      go_wp2_with fail
      go_region
      all_goals go_wp2_with fail
      have ho : OwnS base ((((wr.setCell ⟨b11, 0, none⟩ (.int .i64 r'.1)).setCell ⟨b11, 1, none⟩ (.int .i64 r'.2.1)).setCell ⟨b11, 2, none⟩ (.int .i64 r'.2.2.1)).setCell ⟨b11, 3, none⟩ (.int .i64 r'.2.2.2)) v L :=
        (((HIR.out.own.set (p := ⟨b11, 0, none⟩) HORD.out.2.2.2.2.2 _).set (p := ⟨b11, 1, none⟩) HORD.out.2.2.2.2.2 _).set (p := ⟨b11, 2, none⟩) HORD.out.2.2.2.2.2 _).set (p := ⟨b11, 3, none⟩) HORD.out.2.2.2.2.2 _
      have hbl := (((HIR.out.below.setCell (p := ⟨b11, 0, none⟩) HNE.out.2.2 (.int .i64 r'.1)).setCell (p := ⟨b11, 1, none⟩) HNE.out.2.2 (.int .i64 r'.2.1)).setCell (p := ⟨b11, 2, none⟩) HNE.out.2.2 (.int .i64 r'.2.2.1)).setCell (p := ⟨b11, 3, none⟩) HNE.out.2.2 (.int .i64 r'.2.2.2)
      refine bodyPost_ret (v := .tuple #[v, r'.val, .int .i64 0]) (by simp [results, Try.results46, go_sem, n0, n1, n2, n3]) rfl ⟨v, by rw [HE.out.2], ?_, ?_⟩
      · rw [HE.out.1]; exact ho.weaken HORD.out.1
      · exact ⟨hbl.os, hbl.tape, hbl.output, hbl.size, hbl.block⟩
end Go.Proofs.Ytkckjjchfccdjaa
