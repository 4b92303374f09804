/- What was coded is read as it was. Plain mathematics. -/
import Derived.Test.YtaacfdlnoeiojaaRdNew
import Derived.Test.YtaacfdlnoeiojaaRcDeed
namespace Go.Proofs.Ytaacfdlnoeiojaa

namespace Rc
/-- A later state lies inside an earlier one. -/
def Inside (s S : St) : Prop := s.k ≤ S.k ∧ s.v * 256 ^ (S.k - s.k) ≤ S.v ∧ S.v + S.r ≤ (s.v + s.r) * 256 ^ (S.k - s.k)
theorem Inside.refl (s : St) : Inside s s := ⟨Nat.le_refl _, by simp, by simp⟩
theorem Inside.trans {a b c : St} (h : Inside a b) (k : Inside b c) : Inside a c := by
  obtain ⟨h1, h2, h3⟩ := h
  obtain ⟨k1, k2, k3⟩ := k
  have e : 256 ^ (c.k - a.k) = 256 ^ (b.k - a.k) * 256 ^ (c.k - b.k) := by rw [← Nat.pow_add]; congr 1; omega
  refine ⟨by omega, ?_, ?_⟩
  · rw [e, ← Nat.mul_assoc]
    exact Nat.le_trans (Nat.mul_le_mul_right _ h2) k2
  · rw [e, ← Nat.mul_assoc]
    exact Nat.le_trans k3 (Nat.mul_le_mul_right _ h3)
theorem inside_up (s : St) : Inside s s.up := by
  refine ⟨by show s.k ≤ s.k + 1; omega, ?_, ?_⟩
  · show s.v * 256 ^ (s.k + 1 - s.k) ≤ s.v * 256
    rw [show s.k + 1 - s.k = 1 by omega]; omega
  · show s.v * 256 + s.r * 256 ≤ (s.v + s.r) * 256 ^ (s.k + 1 - s.k)
    rw [show s.k + 1 - s.k = 1 by omega]; omega
theorem inside_scale : ∀ (N : Nat) (s : St), Inside s (St.scale N s)
  | 0, s => Inside.refl s
  | N + 1, s => by
    rw [St.scale]; split
    · exact (inside_up s).trans (inside_scale N s.up)
    · exact Inside.refl s
theorem inside_pick (s : St) (p : Nat) (one : Bool) (h2 : p ≤ 2047) : Inside s (s.pick p one) := by
  have k2 : s.r / 2048 * p ≤ s.r / 2048 * 2047 := Nat.mul_le_mul_left _ h2
  have hr : s.r / 2048 * 2047 ≤ s.r := by omega
  unfold St.pick Inside
  cases one
  · simp only [Bool.false_eq_true, if_false, Nat.sub_self, Nat.pow_zero, Nat.mul_one]; omega
  · simp only [if_true, Nat.sub_self, Nat.pow_zero, Nat.mul_one]; omega
theorem inside_half (s : St) (one : Bool) : Inside s (s.half one) := by
  unfold St.half Inside
  cases one
  · simp only [Bool.false_eq_true, if_false, Nat.sub_self, Nat.pow_zero, Nat.mul_one]; omega
  · simp only [if_true, Nat.sub_self, Nat.pow_zero, Nat.mul_one]; omega
theorem inside_bit (s : St) (c : Nat) (one : Bool) : Inside s (s.bit c one) := (inside_pick s _ one (fair_bounds c).2).trans (inside_scale 2 _)
theorem inside_plain (s : St) : ∀ (n x : Nat), Inside s (s.plain x n)
  | 0, _ => Inside.refl s
  | n + 1, x => ((inside_plain s n (x / 2)).trans (inside_half _ _)).trans (inside_scale 1 _)

/-- The first bytes of what is coded at last. -/
def top (S : St) (k : Nat) : Nat := S.v / 256 ^ (S.k - k)
theorem Inside.bounds {s S : St} (h : Inside s S) (hr : 0 < S.r) : s.v ≤ top S s.k ∧ top S s.k < s.v + s.r := by
  obtain ⟨h1, h2, h3⟩ := h
  have hp : 0 < 256 ^ (S.k - s.k) := Nat.pos_of_ne_zero (by simp)
  unfold top
  exact ⟨(Nat.le_div_iff_mul_le hp).2 h2, (Nat.div_lt_iff_lt_mul hp).2 (by omega)⟩
theorem top_step (S : St) (k : Nat) (h : k < S.k) : top S k = top S (k + 1) / 256 := by
  unfold top
  rw [Nat.div_div_eq_div_mul, ← Nat.pow_succ, show (S.k - (k + 1)).succ = S.k - k by omega]
end Rc

/-- Bytes that are like those of what is coded, as far as they go. -/
def Agree (S : Rc.St) (L : List UInt8) : Prop := ∀ i (h : i < L.length), i < 5 + S.k → (L[i]).toNat = S.v / 256 ^ (4 + S.k - i) % 256
/-- The decoder has read just what the coder had coded. -/
def Follows (S : Rc.St) (L : List UInt8) (s : Rc.St) (d : Rd.St) : Prop :=
  (5 + s.k ≤ L.length → d = ⟨5 + s.k, Rc.top S s.k - s.v, s.r, false⟩) ∧ (¬ 5 + s.k ≤ L.length → d.out = true)

theorem follow_up {S : Rc.St} {L : List UInt8} (hA : Agree S L) (hS : 0 < S.r) {s : Rc.St} (hI : Rc.Inside s.up S) (hr : s.r < 16777216) (ho : 5 + s.k ≤ L.length) :
    Follows S L s.up (Rd.next L ⟨5 + s.k, Rc.top S s.k - s.v, s.r, false⟩) := by
  have hk : s.k + 1 ≤ S.k := hI.1
  obtain ⟨b1, b2⟩ := ((Rc.inside_up s).trans hI).bounds hS
  have ht := Rc.top_step S s.k (by omega)
  refine ⟨fun hn => ?_, fun hn => ?_⟩
  · have hn' : 5 + (s.k + 1) ≤ L.length := hn
    have hlt : 5 + s.k < L.length := by omega
    rw [Rd.next_in (s := ⟨5 + s.k, Rc.top S s.k - s.v, s.r, false⟩) hlt]
    have hb := hA (5 + s.k) hlt (by omega)
    have hb2 : (L[5 + s.k]).toNat = Rc.top S (s.k + 1) % 256 := by rw [hb]; unfold Rc.top; rw [show 4 + S.k - (5 + s.k) = S.k - (s.k + 1) by omega]
    show (⟨5 + s.k + 1, (256 * (Rc.top S s.k - s.v) + (L[5 + s.k]).toNat) % 4294967296, s.r * 256, false⟩ : Rd.St) = ⟨5 + (s.k + 1), Rc.top S (s.k + 1) - s.v * 256, s.r * 256, false⟩
    rw [hb2]
    generalize Rc.top S (s.k + 1) = T at *
    generalize Rc.top S s.k = U at *
    have e : (256 * (U - s.v) + T % 256) % 4294967296 = T - s.v * 256 := by omega
    rw [e]; rfl
  · have hn' : ¬ 5 + (s.k + 1) ≤ L.length := hn
    rw [Rd.next_end (s := ⟨5 + s.k, Rc.top S s.k - s.v, s.r, false⟩) (by show ¬ 5 + s.k < L.length; omega)]

theorem follow_scale {S : Rc.St} {L : List UInt8} (hA : Agree S L) (hS : 0 < S.r) : ∀ (N : Nat) (s : Rc.St) (d : Rd.St), Follows S L s d → Rc.Inside (Rc.St.scale N s) S → Follows S L (Rc.St.scale N s) (Rd.scale L N d)
  | 0, _, _, hF, _ => hF
  | N + 1, s, d, hF, hI => by
    by_cases hr : s.r < 16777216
    · rw [Rc.St.scale, if_pos hr] at hI ⊢
      have hI1 : Rc.Inside s.up S := (Rc.inside_scale N s.up).trans hI
      by_cases ho : 5 + s.k ≤ L.length
      · rw [hF.1 ho, Rd.scale_step rfl hr]
        exact follow_scale hA hS N s.up _ (follow_up hA hS hI1 hr ho) hI
      · have hd := hF.2 ho
        rw [Rd.scale_out hd]
        have := follow_scale hA hS N s.up d ⟨fun h => absurd (show 5 + (s.k + 1) ≤ L.length from h) (by omega), fun _ => hd⟩ hI
        rwa [Rd.scale_out hd] at this
    · rw [Rc.St.scale, if_neg hr] at hI ⊢
      by_cases ho : 5 + s.k ≤ L.length
      · rw [hF.1 ho, Rd.scale_big (show ¬ s.r < 16777216 from hr)]
        exact ⟨fun _ => rfl, fun h => absurd ho h⟩
      · have hd := hF.2 ho
        rw [Rd.scale_out hd]; exact hF

theorem follow_bit {S : Rc.St} {L : List UInt8} (hA : Agree S L) (hS : 0 < S.r) {s : Rc.St} {d : Rd.St} (c : Nat) (one : Bool) (hF : Follows S L s d) (hI : Rc.Inside (s.bit c one) S) :
    Follows S L (s.bit c one) (d.bit L (Rc.fair c)).2 ∧ (5 + (s.bit c one).k ≤ L.length → (d.bit L (Rc.fair c)).1 = one) := by
  obtain ⟨h1, h2⟩ := Rc.fair_bounds c
  have hk : s.k ≤ (s.bit c one).k := (Rc.inside_bit s c one).1
  by_cases ho : 5 + s.k ≤ L.length
  · have hd := hF.1 ho
    subst hd
    have hIp : Rc.Inside (s.pick (Rc.fair c) one) S := (Rc.inside_scale 2 _).trans hI
    obtain ⟨b1, b2⟩ := hIp.bounds hS
    have hb : Rd.St.bit L ⟨5 + s.k, Rc.top S s.k - s.v, s.r, false⟩ (Rc.fair c) = (Rd.St.one ⟨5 + s.k, Rc.top S s.k - s.v, s.r, false⟩ (Rc.fair c), Rd.scale L 2 (Rd.St.pick ⟨5 + s.k, Rc.top S s.k - s.v, s.r, false⟩ (Rc.fair c))) := rfl
    rw [hb]
    unfold Rc.St.bit at hI ⊢
    generalize Rc.fair c = p at *
    cases one with
    | true =>
      have b1' : s.v + s.r / 2048 * p ≤ Rc.top S s.k := b1
      have hle : s.r / 2048 * p ≤ Rc.top S s.k - s.v := by omega
      have e1 : Rd.St.one ⟨5 + s.k, Rc.top S s.k - s.v, s.r, false⟩ p = true := decide_eq_true hle
      have e2 : Rd.St.pick ⟨5 + s.k, Rc.top S s.k - s.v, s.r, false⟩ p = ⟨5 + s.k, Rc.top S s.k - s.v - s.r / 2048 * p, s.r - s.r / 2048 * p, false⟩ := if_pos hle
      rw [e1, e2]
      refine ⟨follow_scale hA hS 2 _ _ ⟨fun _ => ?_, fun h => absurd ho h⟩ hI, fun _ => rfl⟩
      show _ = (⟨5 + s.k, Rc.top S s.k - (s.v + s.r / 2048 * p), s.r - s.r / 2048 * p, false⟩ : Rd.St)
      rw [Nat.sub_sub]
    | false =>
      have b2' : Rc.top S s.k < s.v + s.r / 2048 * p := b2
      have b1' : s.v ≤ Rc.top S s.k := b1
      have hle : ¬ s.r / 2048 * p ≤ Rc.top S s.k - s.v := by omega
      have e1 : Rd.St.one ⟨5 + s.k, Rc.top S s.k - s.v, s.r, false⟩ p = false := decide_eq_false hle
      have e2 : Rd.St.pick ⟨5 + s.k, Rc.top S s.k - s.v, s.r, false⟩ p = ⟨5 + s.k, Rc.top S s.k - s.v, s.r / 2048 * p, false⟩ := if_neg hle
      rw [e1, e2]
      exact ⟨follow_scale hA hS 2 _ _ ⟨fun _ => rfl, fun h => absurd ho h⟩ hI, fun _ => rfl⟩
  · have hd := hF.2 ho
    have hb : d.bit L (Rc.fair c) = (false, d) := by unfold Rd.St.bit; rw [if_pos hd]
    rw [hb]
    exact ⟨⟨fun h => absurd h (by omega), fun _ => hd⟩, fun h => absurd h (by omega)⟩

theorem follow_rounds {S : Rc.St} {L : List UInt8} (hA : Agree S L) (hS : 0 < S.r) {s : Rc.St} {d : Rd.St} (hF : Follows S L s d) : ∀ (n x : Nat), Rc.Inside (s.plain x n) S →
    Follows S L (s.plain x n) (d.rounds L n).2 ∧ (5 + (s.plain x n).k ≤ L.length → (d.rounds L n).1 = x % 2 ^ n)
  | 0, x, _ => ⟨hF, fun _ => by show 0 = x % 1; omega⟩
  | n + 1, x, hI => by
    have hIh : Rc.Inside ((s.plain (x / 2) n).half (x % 2 == 1)) S := (Rc.inside_scale 1 _).trans hI
    have hIp : Rc.Inside (s.plain (x / 2) n) S := (Rc.inside_half _ _).trans hIh
    obtain ⟨f1, f2⟩ := follow_rounds hA hS hF n (x / 2) hIp
    have hpl : s.plain x (n + 1) = Rc.St.scale 1 ((s.plain (x / 2) n).half (x % 2 == 1)) := rfl
    have hk : (s.plain (x / 2) n).k ≤ (s.plain x (n + 1)).k := by
      rw [hpl]; exact ((Rc.inside_half _ _).trans (Rc.inside_scale 1 _)).1
    by_cases ho : 5 + (s.plain (x / 2) n).k ≤ L.length
    · have hq := f1.1 ho
      have hv := f2 ho
      have hrd : d.rounds L (n + 1) = (2 * (d.rounds L n).1 + (if (d.rounds L n).2.r / 2 ≤ (d.rounds L n).2.c then 1 else 0), Rd.scale L 1 (d.rounds L n).2.half) := by
        rw [Rd.St.rounds, if_neg (by rw [hq]; simp)]
      rw [hrd, hpl]
      have hmod : x % 2 ^ (n + 1) = 2 * (x / 2 % 2 ^ n) + x % 2 := by
        have h1 : x % 2 ^ (n + 1) / 2 = x / 2 % 2 ^ n := by rw [Nat.pow_succ, Nat.mul_comm, Nat.mod_mul_right_div_self]
        have h2 : x % 2 ^ (n + 1) % 2 = x % 2 := by rw [Nat.pow_succ, Nat.mod_mul_left_mod]
        omega
      rw [hmod, hv, hq]
      rw [hpl] at hI
      obtain ⟨b1, b2⟩ := hIh.bounds hS
      generalize s.plain (x / 2) n = q at *
      by_cases hx : x % 2 = 1
      · have hxb : (x % 2 == 1) = true := by simp [hx]
        rw [hxb] at hI b1 b2 ⊢
        have b1' : q.v + q.r / 2 ≤ Rc.top S q.k := b1
        have hle : q.r / 2 ≤ Rc.top S q.k - q.v := by omega
        have e2 : Rd.St.half ⟨5 + q.k, Rc.top S q.k - q.v, q.r, false⟩ = ⟨5 + q.k, Rc.top S q.k - q.v - q.r / 2, q.r / 2, false⟩ := if_pos hle
        refine ⟨?_, fun _ => by show 2 * _ + (if q.r / 2 ≤ Rc.top S q.k - q.v then 1 else 0) = _; rw [if_pos hle, hx]⟩
        show Follows S L _ (Rd.scale L 1 (Rd.St.half ⟨5 + q.k, Rc.top S q.k - q.v, q.r, false⟩))
        rw [e2]
        refine follow_scale hA hS 1 _ _ ⟨fun _ => ?_, fun h => absurd ho h⟩ hI
        show _ = (⟨5 + q.k, Rc.top S q.k - (q.v + q.r / 2), q.r / 2, false⟩ : Rd.St)
        rw [Nat.sub_sub]
      · have hxb : (x % 2 == 1) = false := by simp [hx]
        rw [hxb] at hI b1 b2 ⊢
        have b1' : q.v ≤ Rc.top S q.k := b1
        have b2' : Rc.top S q.k < q.v + q.r / 2 := b2
        have hle : ¬ q.r / 2 ≤ Rc.top S q.k - q.v := by omega
        have e2 : Rd.St.half ⟨5 + q.k, Rc.top S q.k - q.v, q.r, false⟩ = ⟨5 + q.k, Rc.top S q.k - q.v, q.r / 2, false⟩ := if_neg hle
        refine ⟨?_, fun _ => by show 2 * _ + (if q.r / 2 ≤ Rc.top S q.k - q.v then 1 else 0) = _; rw [if_neg hle]; omega⟩
        show Follows S L _ (Rd.scale L 1 (Rd.St.half ⟨5 + q.k, Rc.top S q.k - q.v, q.r, false⟩))
        rw [e2]
        exact follow_scale hA hS 1 _ _ ⟨fun _ => rfl, fun h => absurd ho h⟩ hI
    · have hq := f1.2 ho
      have hrd : d.rounds L (n + 1) = d.rounds L n := by rw [Rd.St.rounds, if_pos hq]
      rw [hrd]
      exact ⟨⟨fun h => absurd h (by omega), fun _ => hq⟩, fun h => absurd h (by omega)⟩

theorem follow_plain {S : Rc.St} {L : List UInt8} (hA : Agree S L) (hS : 0 < S.r) {s : Rc.St} {d : Rd.St} (hF : Follows S L s d) (n x : Nat) (hI : Rc.Inside (s.plain x n) S) :
    Follows S L (s.plain x n) (d.plain L n).2 ∧ (5 + (s.plain x n).k ≤ L.length → (d.plain L n).1 = x % 2 ^ n) := by
  obtain ⟨f1, f2⟩ := follow_rounds hA hS hF n x hI
  by_cases ho : 5 + (s.plain x n).k ≤ L.length
  · have hq := f1.1 ho
    have hp : d.plain L n = d.rounds L n := by unfold Rd.St.plain; rw [if_neg (by rw [hq]; simp)]
    rw [hp]; exact ⟨f1, f2⟩
  · have hq := f1.2 ho
    have hp : d.plain L n = (0, (d.rounds L n).2) := by unfold Rd.St.plain; rw [if_pos hq]
    rw [hp]; exact ⟨f1, fun h => absurd h ho⟩

/-- A deed coded, what it says, and a deed read. -/
def stepE (s : Rc.St) (d : Deed) : Rc.St := if d.what = 0 then s.bit d.chance.toNat (d.bit != 0) else s.plain d.v.toNat (many d.n)
def saidOf (d : Deed) : Nat := if d.what = 0 then (bitI (d.bit != 0)).toNat else d.v.toNat % 2 ^ many d.n
def stepD (L : List UInt8) (q : Rd.St) (d : Deed) : Nat × Rd.St := if d.what = 0 then ((bitI (q.bit L (Rc.fair d.chance.toNat)).1).toNat, (q.bit L (Rc.fair d.chance.toNat)).2) else q.plain L (many d.n)
theorem inside_step (s : Rc.St) (d : Deed) : Rc.Inside s (stepE s d) := by
  unfold stepE; split
  · exact Rc.inside_bit _ _ _
  · exact Rc.inside_plain _ _ _
theorem follow_step {S : Rc.St} {L : List UInt8} (hA : Agree S L) (hS : 0 < S.r) {s : Rc.St} {q : Rd.St} (d : Deed) (hF : Follows S L s q) (hI : Rc.Inside (stepE s d) S) :
    Follows S L (stepE s d) (stepD L q d).2 ∧ (5 + (stepE s d).k ≤ L.length → (stepD L q d).1 = saidOf d) := by
  unfold stepE at hI
  unfold stepE stepD saidOf
  by_cases hw : d.what = 0
  · rw [if_pos hw] at hI
    rw [if_pos hw, if_pos hw, if_pos hw]
    obtain ⟨f1, f2⟩ := follow_bit hA hS d.chance.toNat (d.bit != 0) hF hI
    exact ⟨f1, fun h => by show (bitI _).toNat = _; rw [f2 h]⟩
  · rw [if_neg hw] at hI
    rw [if_neg hw, if_neg hw, if_neg hw]
    exact follow_plain hA hS hF _ _ hI
/-- All deeds up to a place. -/
def runE (D : Nat → Deed) : Nat → Rc.St
  | 0 => st0
  | n + 1 => stepE (runE D n) (D n)
def runD (L : List UInt8) (D : Nat → Deed) : Nat → Rd.St
  | 0 => Rd.start L
  | n + 1 => (stepD L (runD L D n) (D n)).2
theorem inside_run (D : Nat → Deed) : ∀ (n m : Nat), Rc.Inside (runE D n) (runE D (n + m))
  | _, 0 => Rc.Inside.refl _
  | n, m + 1 => (inside_run D n m).trans (inside_step _ _)
theorem stepE_ok (s : Rc.St) (d : Deed) (h : s.ok) : (stepE s d).ok ∧ (stepE s d).k ≤ s.k + 32 := by
  unfold stepE; split
  · exact ⟨s.bit_ok _ _ h, by have := s.bit_k d.chance.toNat (d.bit != 0); omega⟩
  · obtain ⟨h1, h2⟩ := s.plain_ok h (many d.n) d.v.toNat
    exact ⟨h1, by have : many d.n ≤ 32 := by unfold many; omega
                  omega⟩
theorem runE_ok (D : Nat → Deed) : ∀ n, (runE D n).ok ∧ (runE D n).k ≤ 32 * n
  | 0 => ⟨st0_ok, Nat.le_refl _⟩
  | n + 1 => by
    obtain ⟨h1, h2⟩ := runE_ok D n
    obtain ⟨k1, k2⟩ := stepE_ok (runE D n) (D n) h1
    exact ⟨k1, by show (stepE (runE D n) (D n)).k ≤ _; omega⟩

theorem follow_start {S : Rc.St} {L : List UInt8} (hA : Agree S L) (hok : S.ok) (h5 : 5 ≤ L.length) : Follows S L st0 (Rd.start L) := by
  refine ⟨fun _ => ?_, fun h => absurd h5 h⟩
  have hv : S.v < 256 ^ (4 + S.k) := S.ok_small hok
  have hb : ∀ i, 1 ≤ i → i ≤ 4 → (L.getD i 0).toNat = S.v / 256 ^ S.k / 256 ^ (4 - i) % 256 := by
    intro i h1 h4
    have hg : L.getD i 0 = L[i]'(by omega) := by simp [List.getD, show i < L.length by omega]
    rw [hg, hA i (by omega) (by omega), Nat.div_div_eq_div_mul, ← Nat.pow_add, show S.k + (4 - i) = 4 + S.k - i by omega]
  have ht : S.v / 256 ^ S.k < 4294967296 := by
    rw [Nat.div_lt_iff_lt_mul (Nat.pos_of_ne_zero (by simp))]
    rw [Nat.pow_add] at hv; exact hv
  show (⟨5, Rd.code0 L, 4294967295, false⟩ : Rd.St) = ⟨5 + 0, S.v / 256 ^ (S.k - 0) - 0, 4294967295, false⟩
  have e1 := hb 1 (by omega) (by omega)
  have e2 := hb 2 (by omega) (by omega)
  have e3 := hb 3 (by omega) (by omega)
  have e4 := hb 4 (by omega) (by omega)
  rw [Nat.sub_zero, Nat.sub_zero]
  unfold Rd.code0
  rw [e1, e2, e3, e4]
  generalize S.v / 256 ^ S.k = T at *
  simp only [show (4 : Nat) - 1 = 3 from rfl, show (4 : Nat) - 2 = 2 from rfl, show (4 : Nat) - 3 = 1 from rfl, show (4 : Nat) - 4 = 0 from rfl, show (256 : Nat) ^ 3 = 16777216 from rfl, show (256 : Nat) ^ 2 = 65536 from rfl, show (256 : Nat) ^ 1 = 256 from rfl, show (256 : Nat) ^ 0 = 1 from rfl]
  have e : T / 16777216 % 256 * 16777216 + T / 65536 % 256 * 65536 + T / 256 % 256 * 256 + T / 1 % 256 = T := by omega
  rw [e]
theorem follow_run {L : List UInt8} {D : Nat → Deed} {n : Nat} (hA : Agree (runE D n) L) (h5 : 5 ≤ L.length) : ∀ t, t ≤ n → Follows (runE D n) L (runE D t) (runD L D t)
  | 0, _ => follow_start hA (runE_ok D n).1 h5
  | t + 1, h => by
    have hS : 0 < (runE D n).r := by have := (runE_ok D n).1.2; omega
    have hI : Rc.Inside (runE D (t + 1)) (runE D n) := by
      have := inside_run D (t + 1) (n - (t + 1))
      rwa [show t + 1 + (n - (t + 1)) = n by omega] at this
    exact (follow_step hA hS (D t) (follow_run hA h5 t (by omega)) hI).1
theorem said_run {L : List UInt8} {D : Nat → Deed} {n : Nat} (hA : Agree (runE D n) L) (h5 : 5 + (runE D n).k ≤ L.length) {t : Nat} (ht : t < n) : (stepD L (runD L D t) (D t)).1 = saidOf (D t) := by
  have hS : 0 < (runE D n).r := by have := (runE_ok D n).1.2; omega
  have hI : Rc.Inside (runE D (t + 1)) (runE D n) := by
    have := inside_run D (t + 1) (n - (t + 1))
    rwa [show t + 1 + (n - (t + 1)) = n by omega] at this
  exact (follow_step hA hS (D t) (follow_run hA (by omega) t (by omega)) hI).2 (by have := hI.1; show 5 + (runE D (t + 1)).k ≤ _; omega)
end Go.Proofs.Ytaacfdlnoeiojaa
