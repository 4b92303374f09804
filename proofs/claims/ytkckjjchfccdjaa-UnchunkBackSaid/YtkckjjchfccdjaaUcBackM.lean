/- Chunks that were packed are read back: the mathematics. -/
import Derived.Test.YtkckjjchfccdjaaMg26
import Derived.Test.YtkckjjchfccdjaaMg27
import Derived.Test.YtkckjjchfccdjaaMg31
namespace Go.Proofs.Ytkckjjchfccdjaa
set_option maxRecDepth 100000
open Go.RowKit

theorem mid_getD (pre X rest : List UInt8) {i : Nat} (h : i < X.length) : (pre ++ (X ++ rest)).getD (pre.length + i) 0 = X.getD i 0 := by
  simp only [List.getD_eq_getElem?_getD]
  rw [List.getElem?_append_right (by omega), show pre.length + i - pre.length = i by omega, List.getElem?_append_left h]
theorem mid_cut (pre X rest : List UInt8) {i n : Nat} (h : i + n ≤ X.length) : ((pre ++ (X ++ rest)).drop (pre.length + i)).take n = (X.drop i).take n := by
  rw [← List.drop_drop, List.drop_append_of_le_length (Nat.le_refl _), List.drop_length, List.nil_append, List.drop_append_of_le_length (by omega), List.take_append_of_le_length (by rw [List.length_drop]; omega)]
theorem mid_two (pre X rest : List UInt8) {i : Nat} (h : i + 1 < X.length) : ckTwo (pre ++ (X ++ rest)) (pre.length + i) = ckTwo X i := by
  unfold ckTwo
  rw [mid_getD pre X rest (by omega), show pre.length + i + 1 = pre.length + (i + 1) by omega, mid_getD pre X rest h]
theorem two_twoB {n : Nat} (h : n < 65536) (x y : UInt8) (hx : x = UInt8.ofNat (n / 256)) (hy : y = UInt8.ofNat n) : 256 * x.toNat + y.toNat = n := by
  subst hx hy
  simp only [UInt8.toNat_ofNat']
  omega
/-- What the reader knows at a part's place, and the packer. -/
structure BkRel (k : PkS) (a : Nat) (z : CodS × Bool) (s : CkS) : Prop where
  out : s.out = k.D.take a
  start : s.start = 0
  first : a = 0 → z = (none, false)
  later : a ≠ 0 → s.clear = true ∧ s.asked = !z.2
  props : z.2 = true → s.lc = k.lc ∧ s.lp = k.lp ∧ s.pb = k.pb
  cod : ∀ c, z.1 = some c → z.2 = true ∧ CodOk c ∧ s.st = c.1 ∧ s.r = c.2.1 ∧ s.P = c.2.2
/-- The options that may be. -/
structure BkOpt (k : PkS) : Prop where
  perm : k.lc ≤ 4 ∧ k.lp ≤ 4 ∧ k.pb ≤ 4 ∧ k.lc + k.lp ≤ 4
  nice : k.nice ≤ 273
  dict : 1 ≤ k.dict
  len : k.D.length ≤ 100000
theorem take_on (D : List UInt8) {a b : Nat} (h : a ≤ b) : D.take a ++ (D.drop a).take (b - a) = D.take b := by
  rw [← List.take_add, show a + (b - a) = b by omega]
theorem codOk_new : CodOk newCod := ⟨by decide, ⟨⟨by decide, by decide, by decide, by decide⟩, by decide, by decide, by decide, by decide⟩, fun _ => ⟨show 1 ≤ 1024 by decide, show 1024 ≤ 2047 by decide⟩⟩
theorem store_back {k : PkS} {a b : Nat} {z : CodS × Bool} {s : CkS} {dict : Int} (hab : a < b) (hb : b ≤ k.D.length) (h16 : b - a ≤ 65536) (hr : BkRel k a z s) (pre rest : List UInt8) :
    ∃ c s', (pre ++ (storeOf k.D a b ++ rest)).getD pre.length 0 = c ∧ c.toNat ≠ 0 ∧ unchunkC (pre ++ (storeOf k.D a b ++ rest)) dict c.toNat (pre.length + 1) s = .go (pre.length + (storeOf k.D a b).length) s' ∧ BkRel k b (none, z.2) s' := by
  obtain ⟨X, hX⟩ : ∃ X, storeOf k.D a b = X := ⟨_, rfl⟩
  have hlen : X.length = b - a + 3 := by rw [← hX]; exact storeOf_len hab hb
  obtain ⟨c, hc⟩ : ∃ c : UInt8, (if a = 0 then 1 else 2) = c := ⟨_, rfl⟩
  have hX' : X = c :: UInt8.ofNat ((b - a - 1) / 256) :: UInt8.ofNat (b - a - 1) :: (k.D.drop a).take (b - a) := by rw [← hX, ← hc]; rfl
  rw [hX]
  have hB : (pre ++ (X ++ rest)).length = pre.length + (X.length + rest.length) := by simp
  have g0 : (pre ++ (X ++ rest)).getD pre.length 0 = c := by
    have := mid_getD pre X rest (i := 0) (by omega)
    rw [Nat.add_zero] at this
    rw [this, hX']; rfl
  have g1 : ckTwo (pre ++ (X ++ rest)) (pre.length + 1) = b - a - 1 := by
    rw [mid_two pre X rest (by omega), hX']
    exact two_twoB (by omega) _ _ rfl rfl
  have g2 : ((pre ++ (X ++ rest)).drop (pre.length + 3)).take (b - a) = (k.D.drop a).take (b - a) := by
    rw [mid_cut pre X rest (by omega), hX']
    show ((k.D.drop a).take (b - a)).take (b - a) = _
    rw [List.take_take, Nat.min_self]
  generalize pre ++ (X ++ rest) = B at *
  have hst : ∀ s1 : CkS, s1.clear = true → s1.out = k.D.take a → unchunk1 B dict c.toNat (pre.length + 1) s1 = .go (pre.length + X.length) { s1 with out := k.D.take b } := by
    intro s1 h1 h2
    have hc2 : c.toNat = 1 ∨ c.toNat = 2 := by
      rw [← hc]
      by_cases h0 : a = 0
      · rw [if_pos h0]; exact .inl rfl
      · rw [if_neg h0]; exact .inr rfl
    unfold unchunk1
    rw [if_neg (ck_ok h1 (by omega)), if_pos (by omega)]
    unfold unstore
    rw [if_neg (by omega), g1, if_neg (by omega), show pre.length + 1 + 2 = pre.length + 3 by omega, show b - a - 1 + 1 = b - a by omega, g2, h2, take_on k.D (by omega)]
    rw [show pre.length + 3 + (b - a) = pre.length + X.length by omega]
  by_cases h0 : a = 0
  · have hc1 : c.toNat = 1 := by rw [← hc, if_pos h0]; rfl
    refine ⟨c, { s with start := s.out.length, clear := true, asked := true, out := k.D.take b }, g0, by omega, ?_, ?_⟩
    · unfold unchunkC unclear
      rw [if_pos (.inl hc1)]
      exact hst _ rfl hr.out
    · have hz := hr.first h0
      refine ⟨rfl, ?_, fun h => by omega, fun _ => ⟨rfl, ?_⟩, fun h => ?_, fun c h => by cases h⟩
      · show s.out.length = 0
        rw [hr.out, h0]; rfl
      · show true = !z.2
        rw [hz]; rfl
      · rw [hz] at h; cases h
  · have hc1 : c.toNat = 2 := by rw [← hc, if_neg h0]; rfl
    refine ⟨c, { s with out := k.D.take b }, g0, by omega, ?_, ?_⟩
    · unfold unchunkC unclear
      rw [if_neg (by omega)]
      exact hst s (hr.later h0).1 hr.out
    · exact ⟨rfl, hr.start, fun h => by omega, fun _ => hr.later h0, hr.props, fun c h => by cases h⟩
theorem packed_back {k : PkS} {a b : Nat} {z : CodS × Bool} {s : CkS} {dict : Int} (hk : BkOpt k) (hd : (k.dict : Int) ≤ dict) (hab : a < b) (hb : b ≤ k.D.length) (h16 : b - a ≤ 65536) (hl16 : (codeOf k a b (codOf z.1)).1.length ≤ 65536) (hr : BkRel k a z s) (pre rest : List UInt8) :
    ∃ c s', (pre ++ (packedOf k a b z.1 z.2 (codeOf k a b (codOf z.1)).1 ++ rest)).getD pre.length 0 = c ∧ c.toNat ≠ 0 ∧ unchunkC (pre ++ (packedOf k a b z.1 z.2 (codeOf k a b (codOf z.1)).1 ++ rest)) dict c.toNat (pre.length + 1) s = .go (pre.length + (packedOf k a b z.1 z.2 (codeOf k a b (codOf z.1)).1).length) s' ∧ BkRel k b (some (codeOf k a b (codOf z.1)).2, true) s' := by
  have hcok : CodOk (codOf z.1) := by
    cases hz : z.1 with
    | none => exact codOk_new
    | some c => exact (hr.cod c hz).2.1
  obtain ⟨h5, hz0, hok2, y, hy1, hy2, hread⟩ := code_back (k := k) (dict := dict) hab hb hk.len hk.dict hk.nice hd hcok
  obtain ⟨⟨L, c2⟩, hcode⟩ : ∃ r, codeOf k a b (codOf z.1) = r := ⟨_, rfl⟩
  rw [hcode] at h5 hz0 hok2 hy1 hy2 hread hl16 ⊢
  simp only at h5 hz0 hok2 hy1 hy2 hread hl16 ⊢
  obtain ⟨c, hc⟩ : ∃ c, ctlB a z.2 z.1 = c := ⟨_, rfl⟩
  obtain ⟨pp, hpp⟩ : ∃ p, (if 192 ≤ c then [propB k] else []) = p := ⟨_, rfl⟩
  obtain ⟨X, hX⟩ : ∃ X, packedOf k a b z.1 z.2 L = X := ⟨_, rfl⟩
  have hX' : X = c :: UInt8.ofNat ((b - a - 1) / 256) :: UInt8.ofNat (b - a - 1) :: UInt8.ofNat ((L.length - 1) / 256) :: UInt8.ofNat (L.length - 1) :: (pp ++ L) := by
    rw [← hX, ← hpp, ← hc]
    unfold packedOf
    simp only [twoB, List.cons_append, List.nil_append]
  have hlen : X.length = 5 + (pp.length + L.length) := by rw [hX']; simp; omega
  rw [hX]
  have hB : (pre ++ (X ++ rest)).length = pre.length + (X.length + rest.length) := by simp
  have g0 : (pre ++ (X ++ rest)).getD pre.length 0 = c := by
    have := mid_getD pre X rest (i := 0) (by omega)
    rw [Nat.add_zero] at this
    rw [this, hX']; rfl
  have g1 : ckTwo (pre ++ (X ++ rest)) (pre.length + 1) = b - a - 1 := by
    rw [mid_two pre X rest (by omega), hX']
    exact two_twoB (by omega) _ _ rfl rfl
  have g3 : ckTwo (pre ++ (X ++ rest)) (pre.length + 3) = L.length - 1 := by
    rw [mid_two pre X rest (by omega), hX']
    exact two_twoB (by omega) _ _ rfl rfl
  have g5 : pp = [propB k] → (pre ++ (X ++ rest)).getD (pre.length + 5) 0 = propB k := by
    intro h
    rw [mid_getD pre X rest (by rw [hlen]; omega), hX', h]; rfl
  have g6 : ((pre ++ (X ++ rest)).drop (pre.length + (5 + pp.length))).take L.length = L := by
    rw [mid_cut pre X rest (by omega), hX']
    have e : (c :: UInt8.ofNat ((b - a - 1) / 256) :: UInt8.ofNat (b - a - 1) :: UInt8.ofNat ((L.length - 1) / 256) :: UInt8.ofNat (L.length - 1) :: (pp ++ L)).drop (5 + pp.length) = L := by
      rw [Nat.add_comm]
      show (pp ++ L).drop pp.length = L
      rw [List.drop_append_of_le_length (Nat.le_refl _), List.drop_length, List.nil_append]
    rw [e, List.take_of_length_le (Nat.le_refl _)]
  generalize pre ++ (X ++ rest) = B at *
  -- the decoding
  have hdec : ∀ s2 : CkS, s2.out = k.D.take a → s2.start = 0 → s2.lc = k.lc → s2.lp = k.lp → s2.pb = k.pb → s2.st = (codOf z.1).1 → s2.r = (codOf z.1).2.1 → s2.P = (codOf z.1).2.2 →
      unbytes B (L.length - 1 + 1) (b - a - 1 + 1) dict (pre.length + (5 + pp.length)) s2 = .go (pre.length + X.length) { s2 with out := k.D.take b, st := c2.1, r := c2.2.1, P := c2.2.2 } := by
    intro s2 e1 e2 e3 e4 e5 e6 e7 e8
    unfold unbytes
    rw [show L.length - 1 + 1 = L.length by omega, show b - a - 1 + 1 = b - a by omega, if_neg (by omega), g6]
    unfold undecode
    have hlen2 : (s2.out.drop s2.start).length = (k.D.take a).length := by rw [e1, e2, List.drop_zero]
    have hread2 : uread 0 0 0 L s2.lc s2.lp s2.pb dict ((s2.out.drop s2.start).length + (b - a)) (b - a) (s2.out.drop s2.start) s2.st s2.r (s2.P, Rd.start L) = some (k.D.take b, c2.1, c2.2.1, y) := by
      rw [e3, e4, e5, e6, e7, e8, e1, e2, List.drop_zero]
      exact hread
    rw [if_neg (by omega), if_neg (fun h => h hz0), hread2]
    unfold unmore
    simp only
    rw [if_pos hy2, hy1, hlen2, e1]
    have e9 : k.D.take a ++ (k.D.take b).drop (k.D.take a).length = k.D.take b := by
      rw [List.length_take, show min a k.D.length = a by omega]
      conv => rhs; rw [← List.take_append_drop a (k.D.take b)]
      rw [List.take_take, show min a b = a by omega]
    rw [e9, show pre.length + (5 + pp.length) + L.length = pre.length + X.length by omega]
  have hrel : ∀ s2 : CkS, s2.start = 0 → s2.clear = true → s2.asked = false → s2.lc = k.lc → s2.lp = k.lp → s2.pb = k.pb → BkRel k b (some c2, true) { s2 with out := k.D.take b, st := c2.1, r := c2.2.1, P := c2.2.2 } :=
    fun s2 e1 e2 e3 e4 e5 e6 => ⟨rfl, e1, fun h => by omega, fun _ => ⟨e2, e3⟩, fun _ => ⟨e4, e5, e6⟩, fun c h => by injection h with h; subst h; exact ⟨rfl, hok2, rfl, rfl, rfl⟩⟩
  -- properties
  have hperm : permB (k.lc : Nat) (k.lp : Nat) (k.pb : Nat) = true := decide_eq_true (by have := hk.perm; omega)
  have hprop : ∀ s1 : CkS, 192 ≤ c.toNat → pp = [propB k] → unprops c.toNat B (pre.length + 5) s1 = .go (pre.length + (5 + pp.length)) { s1 with lc := k.lc, lp := k.lp, pb := k.pb, asked := false } := by
    intro s1 h1 h2
    have hpl : pp.length = 1 := by rw [h2]; rfl
    unfold unprops
    rw [if_neg (by omega), if_neg (by omega), g5 h2]
    have hp : (propB k).toNat = k.lc + 9 * (k.lp + 5 * k.pb) := by
      unfold propB
      have := hk.perm
      rw [UInt8.toNat_ofNat']; omega
    have := hk.perm
    rw [hp, show (k.lc + 9 * (k.lp + 5 * k.pb)) % 9 = k.lc by omega, show (k.lc + 9 * (k.lp + 5 * k.pb)) / 9 % 5 = k.lp by omega, show (k.lc + 9 * (k.lp + 5 * k.pb)) / 45 = k.pb by omega, show pre.length + 5 + 1 = pre.length + (5 + pp.length) by omega]
  have hnew : ∀ s1 : CkS, 160 ≤ c.toNat → s1.lc = k.lc → s1.lp = k.lp → s1.pb = k.pb → unnew c.toNat (pre.length + (5 + pp.length)) s1 = .go (pre.length + (5 + pp.length)) (ckFresh s1) := by
    intro s1 h1 e1 e2 e3
    unfold unnew
    rw [if_neg (by omega), e1, e2, e3, if_neg (by rw [hperm]; decide)]
  have hpack : ∀ (s1 s2 : CkS), c.toNat % 32 = 0 → (unprops c.toNat B (pre.length + 5) s1).then (unnew c.toNat) = .go (pre.length + (5 + pp.length)) s2 → unpackC B dict c.toNat (pre.length + 1) s1 = unbytes B (L.length - 1 + 1) (b - a - 1 + 1) dict (pre.length + (5 + pp.length)) s2 := by
    intro s1 s2 h32 h1
    unfold unpackC
    rw [if_neg (by omega), show pre.length + 1 + 4 = pre.length + 5 by omega, h1, show pre.length + 1 + 2 = pre.length + 3 by omega, g3, g1, h32, Nat.mul_zero, Nat.zero_add]
    rfl
  by_cases h0 : a = 0
  · have hz := hr.first h0
    have hcv : c = 224 := by rw [← hc]; unfold ctlB; rw [if_pos h0]
    have hct : c.toNat = 224 := by rw [hcv]; rfl
    have hppv : pp = [propB k] := by rw [← hpp, hcv, if_pos (by decide)]
    have hcodv : codOf z.1 = newCod := by rw [hz]; rfl
    obtain ⟨s1, hs1⟩ : ∃ s1 : CkS, { s with start := s.out.length, clear := true, asked := true } = s1 := ⟨_, rfl⟩
    have hs1f : s1.out = k.D.take a ∧ s1.start = 0 ∧ s1.clear = true := by
      rw [← hs1]
      exact ⟨hr.out, by show s.out.length = 0; rw [hr.out, h0]; rfl, rfl⟩
    refine ⟨c, _, g0, by omega, ?_, hrel (ckFresh { s1 with lc := k.lc, lp := k.lp, pb := k.pb, asked := false }) hs1f.2.1 hs1f.2.2 rfl rfl rfl rfl⟩
    unfold unchunkC unclear
    rw [if_pos (.inr (by omega)), hs1]
    unfold unchunk1
    rw [if_neg (ck_ok hs1f.2.2 (by omega)), if_neg (by omega), if_neg (by omega), hpack s1 (ckFresh { s1 with lc := k.lc, lp := k.lp, pb := k.pb, asked := false }) (by omega) (by rw [hprop s1 (by omega) hppv]; exact hnew _ (by omega) rfl rfl rfl)]
    exact hdec _ hs1f.1 hs1f.2.1 rfl rfl rfl (by rw [hcodv]; rfl) (by rw [hcodv]; rfl) (by rw [hcodv]; rfl)
  · obtain ⟨hclr, hask⟩ := hr.later h0
    cases hhad : z.2 with
    | false =>
      have hcv : c = 192 := by rw [← hc]; unfold ctlB; rw [if_neg h0, if_pos hhad]
      have hct : c.toNat = 192 := by rw [hcv]; rfl
      have hppv : pp = [propB k] := by rw [← hpp, hcv, if_pos (by decide)]
      have hcodv : codOf z.1 = newCod := by
        cases hz1 : z.1 with
        | none => rfl
        | some q => have := (hr.cod q hz1).1; rw [hhad] at this; cases this
      refine ⟨c, _, g0, by omega, ?_, hrel (ckFresh { s with lc := k.lc, lp := k.lp, pb := k.pb, asked := false }) hr.start hclr rfl rfl rfl rfl⟩
      unfold unchunkC unclear
      rw [if_neg (by omega)]
      unfold unchunk1
      rw [if_neg (ck_ok hclr (by omega)), if_neg (by omega), if_neg (by omega), hpack s (ckFresh { s with lc := k.lc, lp := k.lp, pb := k.pb, asked := false }) (by omega) (by rw [hprop s (by omega) hppv]; exact hnew _ (by omega) rfl rfl rfl)]
      exact hdec _ hr.out hr.start rfl rfl rfl (by rw [hcodv]; rfl) (by rw [hcodv]; rfl) (by rw [hcodv]; rfl)
    | true =>
      obtain ⟨q1, q2, q3⟩ := hr.props hhad
      have hask' : s.asked = false := by rw [hask, hhad]; rfl
      cases hz1 : z.1 with
      | none =>
        have hcv : c = 160 := by rw [← hc]; unfold ctlB; rw [if_neg h0, if_neg (by rw [hhad]; decide), hz1]; rfl
        have hct : c.toNat = 160 := by rw [hcv]; rfl
        have hppv : pp = [] := by rw [← hpp, hcv, if_neg (by decide)]
        have hcodv : codOf z.1 = newCod := by rw [hz1]; rfl
        refine ⟨c, _, g0, by omega, ?_, hrel (ckFresh s) hr.start hclr hask' q1 q2 q3⟩
        unfold unchunkC unclear
        rw [if_neg (by omega)]
        unfold unchunk1
        have hpr : unprops c.toNat B (pre.length + 5) s = .go (pre.length + (5 + pp.length)) s := by unfold unprops; rw [if_pos (by omega), hppv]; rfl
        rw [if_neg (ck_ok hclr (by omega)), if_neg (by omega), if_neg (by rw [hask']; intro h; exact Bool.noConfusion h.2), hpack s (ckFresh s) (by omega) (by rw [hpr]; exact hnew _ (by omega) q1 q2 q3)]
        exact hdec _ hr.out hr.start q1 q2 q3 (by rw [hcodv]; rfl) (by rw [hcodv]; rfl) (by rw [hcodv]; rfl)
      | some q =>
        have hcv : c = 128 := by rw [← hc]; unfold ctlB; rw [if_neg h0, if_neg (by rw [hhad]; decide), hz1]; rfl
        have hct : c.toNat = 128 := by rw [hcv]; rfl
        have hppv : pp = [] := by rw [← hpp, hcv, if_neg (by decide)]
        have hcodv : codOf z.1 = q := by rw [hz1]; rfl
        obtain ⟨_, _, w1, w2, w3⟩ := hr.cod q hz1
        refine ⟨c, _, g0, by omega, ?_, hrel s hr.start hclr hask' q1 q2 q3⟩
        unfold unchunkC unclear
        rw [if_neg (by omega)]
        unfold unchunk1
        have hpr : unprops c.toNat B (pre.length + 5) s = .go (pre.length + (5 + pp.length)) s := by unfold unprops; rw [if_pos (by omega), hppv]; rfl
        have hnw : unnew c.toNat (pre.length + (5 + pp.length)) s = .go (pre.length + (5 + pp.length)) s := by unfold unnew; rw [if_pos (by omega)]
        rw [if_neg (ck_ok hclr (by omega)), if_neg (by omega), if_neg (by rw [hask']; intro h; exact Bool.noConfusion h.2), hpack s s (by omega) (by rw [hpr]; exact hnw)]
        exact hdec _ hr.out hr.start q1 q2 q3 (by rw [hcodv]; exact w1) (by rw [hcodv]; exact w2) (by rw [hcodv]; exact w3)
theorem chunk_back {k : PkS} {a b : Nat} {z : CodS × Bool} {s : CkS} {dict : Int} (hk : BkOpt k) (hd : (k.dict : Int) ≤ dict) (hab : a < b) (hb : b ≤ k.D.length) (h16 : b - a ≤ 65536) (hr : BkRel k a z s) (pre rest : List UInt8) :
    ∃ c s', (pre ++ ((chunkOf k a b z.1 z.2).1 ++ rest)).getD pre.length 0 = c ∧ c.toNat ≠ 0 ∧ unchunkC (pre ++ ((chunkOf k a b z.1 z.2).1 ++ rest)) dict c.toNat (pre.length + 1) s = .go (pre.length + (chunkOf k a b z.1 z.2).1.length) s' ∧ BkRel k b (chunkOf k a b z.1 z.2).2 s' := by
  have e : chunkOf k a b z.1 z.2 = if b - a + 3 ≤ (packedOf k a b z.1 z.2 (codeOf k a b (codOf z.1)).1).length ∨ 65536 < (codeOf k a b (codOf z.1)).1.length then (storeOf k.D a b, none, z.2) else (packedOf k a b z.1 z.2 (codeOf k a b (codOf z.1)).1, some (codeOf k a b (codOf z.1)).2, true) := rfl
  rw [e]
  split
  · exact store_back hab hb h16 hr pre rest
  · rename_i h
    exact packed_back hk hd hab hb h16 (by omega) hr pre rest
theorem chunk_pos {k : PkS} {a b : Nat} (hab : a < b) (hb : b ≤ k.D.length) (z : CodS × Bool) : 1 ≤ (chunkOf k a b z.1 z.2).1.length := by
  have e : chunkOf k a b z.1 z.2 = if b - a + 3 ≤ (packedOf k a b z.1 z.2 (codeOf k a b (codOf z.1)).1).length ∨ 65536 < (codeOf k a b (codOf z.1)).1.length then (storeOf k.D a b, none, z.2) else (packedOf k a b z.1 z.2 (codeOf k a b (codOf z.1)).1, some (codeOf k a b (codOf z.1)).2, true) := rfl
  rw [e]
  split
  · show 1 ≤ (storeOf k.D a b).length
    rw [storeOf_len hab hb]; omega
  · show 1 ≤ (packedOf k a b z.1 z.2 (codeOf k a b (codOf z.1)).1).length
    unfold packedOf
    simp only [List.length_append, List.length_cons]
    omega
/-- All parts' chunks are read back. -/
theorem parts_back {k : PkS} {dict : Int} {c : Nat} (hk : BkOpt k) (hd : (k.dict : Int) ≤ dict) (hc : 1 ≤ c) (hc16 : c ≤ 65536) : ∀ (f a : Nat) (z : CodS × Bool) (s : CkS) (pre rest : List UInt8) (fuel : Nat), k.D.length - a ≤ f → a ≤ k.D.length → BkRel k a z s → (packGo k (partsL k.D.length c a) z).1.length ≤ fuel →
    ∃ s' fuel', s'.out = k.D ∧ fuel ≤ fuel' + (packGo k (partsL k.D.length c a) z).1.length ∧ unchunkAll (pre ++ ((packGo k (partsL k.D.length c a) z).1 ++ rest)) dict fuel pre.length s = unchunkAll (pre ++ ((packGo k (partsL k.D.length c a) z).1 ++ rest)) dict fuel' (pre.length + (packGo k (partsL k.D.length c a) z).1.length) s' ∧
      (CkShort (pre ++ ((packGo k (partsL k.D.length c a) z).1 ++ rest)) dict fuel' (pre.length + (packGo k (partsL k.D.length c a) z).1.length) s' → CkShort (pre ++ ((packGo k (partsL k.D.length c a) z).1 ++ rest)) dict fuel pre.length s)
  | 0, a, z, s, pre, rest, fuel, hf, ha, hr, hfu => by
    rw [partsL_end (by omega)] at hfu ⊢
    refine ⟨s, fuel, ?_, Nat.le_add_right _ _, rfl, fun h => h⟩
    rw [hr.out, List.take_of_length_le (by omega)]
  | f + 1, a, z, s, pre, rest, fuel, hf, ha, hr, hfu => by
    by_cases hal : a < k.D.length
    · rw [partsL_step hc hal] at hfu ⊢
      obtain ⟨b, hb⟩ : ∃ b, min (a + c) k.D.length = b := ⟨_, rfl⟩
      have hab : a < b := by omega
      have hbl : b ≤ k.D.length := by omega
      have hgo : (packGo k ((a, b) :: partsL k.D.length c (a + c)) z).1 = (chunkOf k a b z.1 z.2).1 ++ (packGo k (partsL k.D.length c (a + c)) (chunkOf k a b z.1 z.2).2).1 := rfl
      have hnext : partsL k.D.length c (a + c) = partsL k.D.length c b := by
        by_cases h : a + c < k.D.length
        · rw [show b = a + c by omega]
        · rw [partsL_end h, partsL_end (by omega)]
      rw [hb, hgo] at hfu ⊢
      rw [hnext] at hfu ⊢
      obtain ⟨X, hX⟩ : ∃ X, chunkOf k a b z.1 z.2 = X := ⟨_, rfl⟩
      obtain ⟨c1, s1, g1, g2, g3, g4⟩ := chunk_back hk hd hab hbl (by omega) hr pre ((packGo k (partsL k.D.length c b) X.2).1 ++ rest)
      have hpos := chunk_pos hab hbl z
      rw [hX] at g1 g3 g4 hpos hfu ⊢
      rw [List.length_append] at hfu
      obtain ⟨fu, rfl⟩ : ∃ fu, fuel = fu + 1 := ⟨fuel - 1, by omega⟩
      obtain ⟨s', fuel', h1, h2, h3, h4⟩ := parts_back hk hd hc hc16 f b X.2 s1 (pre ++ X.1) rest fu (by omega) hbl g4 (by omega)
      have eB : pre ++ X.1 ++ ((packGo k (partsL k.D.length c b) X.2).1 ++ rest) = pre ++ (X.1 ++ (packGo k (partsL k.D.length c b) X.2).1 ++ rest) := by simp only [List.append_assoc]
      have eB2 : pre ++ (X.1 ++ ((packGo k (partsL k.D.length c b) X.2).1 ++ rest)) = pre ++ (X.1 ++ (packGo k (partsL k.D.length c b) X.2).1 ++ rest) := by simp only [List.append_assoc]
      rw [eB] at h3 h4
      rw [eB2] at g1 g3
      obtain ⟨B, hB⟩ : ∃ B, pre ++ (X.1 ++ (packGo k (partsL k.D.length c b) X.2).1 ++ rest) = B := ⟨_, rfl⟩
      have hBl : pre.length < B.length := by rw [← hB]; simp only [List.length_append]; omega
      rw [hB] at h3 h4 g1 g3 ⊢
      rw [List.length_append] at h3 h4
      rw [List.length_append]
      refine ⟨s', fuel', h1, by omega, ?_, fun h => ?_⟩
      · conv => lhs; unfold unchunkAll
        rw [if_neg (by omega), g1, if_neg g2, g3]
        show unchunkAll B dict fu (pre.length + X.1.length) s1 = _
        rw [h3, Nat.add_assoc]
      · unfold CkShort
        refine ⟨?_, fun _ _ => ?_⟩
        · rw [hr.out, List.length_take]; have := hk.len; omega
        · rw [g1, g3]
          exact h4 (by rw [Nat.add_assoc]; exact h)
    · rw [partsL_end hal] at hfu ⊢
      refine ⟨s, fuel, ?_, Nat.le_add_right _ _, rfl, fun h => h⟩
      rw [hr.out, List.take_of_length_le (by omega)]
theorem packB_four {k : PkS} (hc : 1 ≤ k.chunk.toNat) : (packB k).length ≤ 4 * k.D.length + 1 := by
  have h1 := packGo_len (k := k) (n := k.D.length) (c := k.chunk.toNat) hc rfl k.D.length 0 (none, false) (by omega)
  have h2 := partsL_len (n := k.D.length) (c := k.chunk.toNat) hc k.D.length 0 (by omega)
  unfold packB
  rw [List.length_append, List.length_singleton]
  omega
theorem bk0 (k : PkS) : BkRel k 0 (none, false) ck0 := ⟨rfl, rfl, fun _ => rfl, fun h => absurd rfl h, fun h => (by cases h), fun c h => (by cases h)⟩
theorem short_end {B : List UInt8} {dict : Int} {s : CkS} (h : s.out.length ≤ 400000000) {pos : Nat} (hp : B.length ≤ pos ∨ (B.getD pos 0).toNat = 0) (f : Nat) : CkShort B dict f pos s := by
  cases f with
  | zero => exact h
  | succ f =>
    unfold CkShort
    refine ⟨h, fun h1 h2 => ?_⟩
    rcases hp with hp | hp
    · omega
    · exact absurd hp h2
/-- What was packed is read back, whatever stands behind. -/
theorem pack_back {k : PkS} {dict : Int} (hk : BkOpt k) (hch : 1 ≤ k.chunk ∧ k.chunk ≤ 65536) (hd : (k.dict : Int) ≤ dict) (behind : List UInt8) {fuel : Nat} (hf : (packB k ++ behind).length < fuel) :
    unchunkAll (packB k ++ behind) dict fuel 0 ck0 = (k.D, (packB k).length, 0) ∧ CkShort (packB k ++ behind) dict fuel 0 ck0 := by
  obtain ⟨P, hP⟩ : ∃ P, (packGo k (partsL k.D.length k.chunk.toNat 0) (none, false)).1 = P := ⟨_, rfl⟩
  have hpk : packB k = P ++ [0] := by unfold packB; rw [hP]
  obtain ⟨s', fuel', h1, h2, h3, h4⟩ := parts_back (dict := dict) (c := k.chunk.toNat) hk hd (by omega) (by omega) k.D.length 0 (none, false) ck0 [] (0 :: behind) fuel (by omega) (Nat.zero_le _) (bk0 k) (by rw [hP]; rw [hpk] at hf; simp only [List.length_append] at hf; omega)
  rw [hP] at h2 h3 h4
  have eB : ([] : List UInt8) ++ (P ++ 0 :: behind) = packB k ++ behind := by rw [hpk]; simp
  rw [eB] at h3 h4
  have hz : (packB k ++ behind).getD P.length 0 = 0 := by
    rw [hpk]
    simp [List.getD_eq_getElem?_getD]
  have hl : (packB k).length = P.length + 1 := by rw [hpk]; simp
  have hlen : (packB k ++ behind).length = P.length + 1 + behind.length := by rw [List.length_append, hl]
  simp only [List.length_nil, Nat.zero_add] at h3 h4
  constructor
  · rw [h3]
    obtain ⟨fu, rfl⟩ : ∃ fu, fuel' = fu + 1 := ⟨fuel' - 1, by omega⟩
    unfold unchunkAll
    rw [if_neg (by omega), hz, if_pos (show UInt8.toNat 0 = 0 from rfl), h1, hl]
  · exact h4 (short_end (by rw [h1]; have := hk.len; omega) (.inr (by rw [hz]; rfl)) fuel')
/-- Without its last byte it isn't whole. -/
theorem pack_cut {k : PkS} {dict : Int} (hk : BkOpt k) (hch : 1 ≤ k.chunk ∧ k.chunk ≤ 65536) (hd : (k.dict : Int) ≤ dict) {fuel : Nat} (hf : (packB k).length ≤ fuel) :
    unchunkAll ((packB k).take ((packB k).length - 1)) dict fuel 0 ck0 = ([], 0, 2) ∧ CkShort ((packB k).take ((packB k).length - 1)) dict fuel 0 ck0 := by
  obtain ⟨P, hP⟩ : ∃ P, (packGo k (partsL k.D.length k.chunk.toNat 0) (none, false)).1 = P := ⟨_, rfl⟩
  have hpk : packB k = P ++ [0] := by unfold packB; rw [hP]
  have hl : (packB k).length = P.length + 1 := by rw [hpk]; simp
  have hcut : (packB k).take ((packB k).length - 1) = P := by rw [hl, hpk]; simp
  obtain ⟨s', fuel', h1, h2, h3, h4⟩ := parts_back (dict := dict) (c := k.chunk.toNat) hk hd (by omega) (by omega) k.D.length 0 (none, false) ck0 [] [] fuel (by omega) (Nat.zero_le _) (bk0 k) (by rw [hP]; omega)
  rw [hP] at h2 h3 h4
  have eB : ([] : List UInt8) ++ (P ++ []) = P := by simp
  rw [eB] at h3 h4
  simp only [List.length_nil, Nat.zero_add] at h3 h4
  rw [hcut]
  constructor
  · rw [h3]
    obtain ⟨fu, rfl⟩ : ∃ fu, fuel' = fu + 1 := ⟨fuel' - 1, by omega⟩
    unfold unchunkAll
    rw [if_pos (by omega)]
  · exact h4 (short_end (by rw [h1]; have := hk.len; omega) (.inl (Nat.le_refl _)) fuel')
end Go.Proofs.Ytkckjjchfccdjaa
