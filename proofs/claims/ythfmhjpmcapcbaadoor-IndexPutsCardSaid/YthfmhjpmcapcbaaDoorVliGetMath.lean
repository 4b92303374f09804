/- Numbers got of bytes. Plain mathematics. -/
import Derived.Test.YthfmhjpmcapcbaaDoorVliMath
namespace Go.Proofs.YthfmhjpmcapcbaaDoor.Vl

/-- The number of the first i bytes. -/
def num (l : List UInt8) : Nat → Nat
  | 0 => 0
  | i + 1 => num l i + (l.getD i 0).toNat % 128 * 128 ^ i
theorem num_lt (l : List UInt8) : ∀ i, num l i < 128 ^ i
  | 0 => by show 0 < 1; omega
  | i + 1 => by
    have h := num_lt l i
    have h2 : (l.getD i 0).toNat % 128 * 128 ^ i ≤ 127 * 128 ^ i := Nat.mul_le_mul_right _ (by omega)
    show num l i + _ < _
    rw [Nat.pow_succ]; omega
/-- What is got from place i on. -/
def go (l : List UInt8) : Nat → Nat → Nat × Nat × Nat
  | 0, _ => (0, 0, 6)
  | f + 1, i => if l.length ≤ i then (0, 0, 2) else if 128 ≤ (l.getD i 0).toNat then go l f (i + 1) else if (l.getD i 0).toNat = 0 ∧ 0 < i then (0, 0, 6) else (num l (i + 1), i + 1, 0)
def get (l : List UInt8) : Nat × Nat × Nat := go l 9 0

theorem go_end {l : List UInt8} {f i : Nat} (h : l.length ≤ i) : go l (f + 1) i = (0, 0, 2) := by rw [go, if_pos h]
theorem go_more {l : List UInt8} {f i : Nat} (h : ¬ l.length ≤ i) (hb : 128 ≤ (l.getD i 0).toNat) : go l (f + 1) i = go l f (i + 1) := by rw [go, if_neg h, if_pos hb]
theorem go_bad {l : List UInt8} {f i : Nat} (h : ¬ l.length ≤ i) (hb : (l.getD i 0).toNat = 0) (hi : 0 < i) : go l (f + 1) i = (0, 0, 6) := by rw [go, if_neg h, if_neg (by omega), if_pos ⟨hb, hi⟩]
theorem go_last {l : List UInt8} {f i : Nat} (h : ¬ l.length ≤ i) (hb : ¬ 128 ≤ (l.getD i 0).toNat) (hi : ¬ ((l.getD i 0).toNat = 0 ∧ 0 < i)) : go l (f + 1) i = (num l (i + 1), i + 1, 0) := by rw [go, if_neg h, if_neg hb, if_neg hi]

/-- What was put is got, whatever stands behind. -/
theorem go_put (l : List UInt8) (more : List UInt8) : ∀ (f n i e : Nat), l.drop i = put f n ++ more → n < 128 ^ (f + 1) → (0 < i → 0 < n) → f + 1 ≤ e → go l e i = (num l i + n * 128 ^ i, i + (put f n).length, 0)
  | 0, n, i, e, hd, hn, hp, he => by
    obtain ⟨e, rfl⟩ : ∃ e', e = e' + 1 := ⟨e - 1, by omega⟩
    have hn' : n < 128 := by simpa using hn
    have hlt : ¬ l.length ≤ i := by intro h; rw [List.drop_eq_nil_of_le h] at hd; simp [put] at hd
    have hg : l.getD i 0 = UInt8.ofNat n := by
      have : (l.drop i)[0]? = some (UInt8.ofNat n) := by rw [hd]; rfl
      rw [List.getElem?_drop] at this; simp only [Nat.add_zero] at this
      rw [List.getD_eq_getElem?_getD, this]; rfl
    have ht : (l.getD i 0).toNat = n := by rw [hg, UInt8.toNat_ofNat']; omega
    rw [go_last hlt (by omega) (by rw [ht]; intro ⟨h1, h2⟩; have := hp h2; omega), num, ht, Nat.mod_eq_of_lt hn']; rfl
  | f + 1, n, i, e, hd, hn, hp, he => by
    obtain ⟨e, rfl⟩ : ∃ e', e = e' + 1 := ⟨e - 1, by omega⟩
    have hlt : ¬ l.length ≤ i := by
      intro h; rw [List.drop_eq_nil_of_le h] at hd
      have := (put_length (f + 1) n).1
      have h2 := congrArg List.length hd
      simp at h2; omega
    by_cases hs : n < 128
    · rw [put_small hs] at hd ⊢
      have hg : l.getD i 0 = UInt8.ofNat n := by
        have : (l.drop i)[0]? = some (UInt8.ofNat n) := by rw [hd]; rfl
        rw [List.getElem?_drop] at this; simp only [Nat.add_zero] at this
        rw [List.getD_eq_getElem?_getD, this]; rfl
      have ht : (l.getD i 0).toNat = n := by rw [hg, UInt8.toNat_ofNat']; omega
      rw [go_last hlt (by omega) (by rw [ht]; intro ⟨h1, h2⟩; have := hp h2; omega), num, ht, Nat.mod_eq_of_lt hs]; rfl
    · rw [put_big hs] at hd ⊢
      have hg : l.getD i 0 = UInt8.ofNat (n % 128 + 128) := by
        have : (l.drop i)[0]? = some (UInt8.ofNat (n % 128 + 128)) := by rw [hd]; rfl
        rw [List.getElem?_drop] at this; simp only [Nat.add_zero] at this
        rw [List.getD_eq_getElem?_getD, this]; rfl
      have ht : (l.getD i 0).toNat = n % 128 + 128 := by rw [hg, UInt8.toNat_ofNat']; omega
      have hd2 : l.drop (i + 1) = put f (n / 128) ++ more := by
        have : l.drop (i + 1) = (l.drop i).drop 1 := by rw [List.drop_drop]
        rw [this, hd]; rfl
      have hn2 : n / 128 < 128 ^ (f + 1) := by
        rw [Nat.div_lt_iff_lt_mul (by omega)]; rw [Nat.pow_succ] at hn; exact hn
      rw [go_more hlt (by omega), go_put l more f (n / 128) (i + 1) e hd2 hn2 (fun _ => by omega) (by omega), num, ht]
      have e1 : (n % 128 + 128) % 128 = n % 128 := by omega
      have e2 : n / 128 * 128 ^ (i + 1) = n / 128 * 128 * 128 ^ i := by rw [Nat.pow_succ, Nat.mul_comm (128 ^ i), Nat.mul_assoc]
      have e3 : n % 128 * 128 ^ i + n / 128 * 128 * 128 ^ i = n * 128 ^ i := by rw [← Nat.add_mul]; congr 1; omega
      rw [e1, e2, Nat.add_assoc, e3, List.length_cons]
      congr 2; omega

/-- What was got is put as it was. -/
theorem put_go (l : List UInt8) : ∀ (f i N k : Nat), go l f i = (N, k, 0) → ∃ m, N = num l i + m * 128 ^ i ∧ i < k ∧ k ≤ l.length ∧ put f m = (l.drop i).take (k - i) ∧ m < 128 ^ f ∧ (0 < i → 0 < m)
  | 0, i, N, k, h => by simp [go] at h
  | f + 1, i, N, k, h => by
    by_cases hlt : l.length ≤ i
    · rw [go_end hlt] at h; simp at h
    · have hcons : l.drop i = l.getD i 0 :: l.drop (i + 1) := by
        rw [List.drop_eq_getElem_cons (by omega)]; congr 1; simp [List.getD, show i < l.length by omega]
      by_cases hb : 128 ≤ (l.getD i 0).toNat
      · rw [go_more hlt hb] at h
        obtain ⟨m, h1, h2, h3, h4, h5, h6⟩ := put_go l f (i + 1) N k h
        have hlt256 := (l.getD i 0).toNat_lt
        have hm := h6 (by omega)
        have e1 : ((l.getD i 0).toNat % 128 + m * 128) / 128 = m := by omega
        have e2 : ((l.getD i 0).toNat % 128 + m * 128) % 128 = (l.getD i 0).toNat % 128 := by omega
        refine ⟨(l.getD i 0).toNat % 128 + m * 128, ?_, by omega, h3, ?_, ?_, fun _ => by omega⟩
        · rw [h1, num, Nat.add_assoc, Nat.add_mul, Nat.pow_succ, Nat.mul_assoc m, Nat.mul_comm 128]
        · rw [put_big (by omega), e1, e2, h4, hcons, show k - i = (k - (i + 1)) + 1 by omega, List.take_succ_cons]
          congr 1
          apply UInt8.toNat_inj.1
          rw [UInt8.toNat_ofNat']; omega
        · rw [Nat.pow_succ]; omega
      · by_cases hz : (l.getD i 0).toNat = 0 ∧ 0 < i
        · rw [go_bad hlt hz.1 hz.2] at h; simp at h
        · rw [go_last hlt hb hz] at h
          simp only [Prod.mk.injEq, and_true] at h
          obtain ⟨rfl, rfl⟩ := h
          refine ⟨(l.getD i 0).toNat, ?_, by omega, by omega, ?_, ?_, fun hi => by omega⟩
          · rw [num, Nat.mod_eq_of_lt (by omega)]
          · rw [put_small (by omega), hcons, show i + 1 - i = 0 + 1 by omega, List.take_succ_cons, List.take_zero]
            congr 1
            apply UInt8.toNat_inj.1
            rw [UInt8.toNat_ofNat']; have := (l.getD i 0).toNat_lt; omega
          · rw [Nat.pow_succ]; have : 0 < 128 ^ f := Nat.pos_of_ne_zero (by simp)
            have h1 : 1 * 128 ≤ 128 ^ f * 128 := Nat.mul_le_mul_right _ this
            omega
end Go.Proofs.YthfmhjpmcapcbaaDoor.Vl
