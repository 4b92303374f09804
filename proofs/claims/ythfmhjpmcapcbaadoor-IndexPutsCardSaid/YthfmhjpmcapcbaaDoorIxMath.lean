/- The list of records there and back: plain mathematics. -/
import Derived.Test.YthfmhjpmcapcbaaDoorIxPut
namespace Go.Proofs.YthfmhjpmcapcbaaDoor
open Go.RowKit

theorem get_put (n : Nat) (more : List UInt8) (h : n < 9223372036854775808) : Vl.get (Vl.put 9 n ++ more) = (n, (Vl.put 9 n).length, 0) := by
  have h9 : n < 128 ^ 9 := by rw [show (128 : Nat) ^ 9 = 9223372036854775808 by decide]; exact h
  have e : Vl.put 9 n = Vl.put 8 n := by
    have key : ∀ (f m : Nat), m < 128 ^ (f + 1) → Vl.put (f + 1) m = Vl.put f m := by
      intro f
      induction f with
      | zero => intro m hm; rw [Vl.put_small (by simpa using hm), Vl.put_small (by simpa using hm)]
      | succ f ih =>
        intro m hm
        by_cases hs : m < 128
        · rw [Vl.put_small hs, Vl.put_small hs]
        · rw [Vl.put_big hs, Vl.put_big hs, ih (m / 128) (by rw [Nat.div_lt_iff_lt_mul (by omega)]; rw [Nat.pow_succ] at hm; exact hm)]
    exact key 8 n h9
  have := Vl.go_put (Vl.put 9 n ++ more) more 8 n 0 9 (by rw [e]; rfl) h9 (by omega) (by omega)
  unfold Vl.get
  rw [this, e]
  simp [Vl.num]
theorem next_put {l more : List UInt8} {k n : Nat} (h : n < 9223372036854775808) (hd : l.drop k = Vl.put 9 n ++ more) : nextR l k = (n, k + (Vl.put 9 n).length, 0) := by
  unfold nextR
  rw [hd, get_put n more h]
  rfl
theorem put_next {l : List UInt8} {k n p : Nat} (hk : k ≤ l.length) (h : nextR l k = (n, p, 0)) : k < p ∧ p ≤ l.length ∧ n < 9223372036854775808 ∧ l.take p = l.take k ++ Vl.put 9 n := by
  have hc := nextR_cases l k hk
  rw [h] at hc
  rcases hc with ⟨_, h2, h3, h4⟩ | ⟨h1, _⟩ | ⟨h1, _⟩
  · have h2' : k < p := h2
    have h3' : p ≤ l.length := h3
    have h4' : n < 9223372036854775808 := h4
    refine ⟨h2', h3', h4', ?_⟩
    unfold nextR at h
    by_cases h6 : (Vl.get (l.drop k)).2.2 = 6
    · rw [if_pos h6] at h; simp at h
    · rw [if_neg h6] at h
      simp only [Prod.mk.injEq] at h
      obtain ⟨e1, e2, e3⟩ := h
      rcases hq : Vl.get (l.drop k) with ⟨N, m, er⟩
      rw [hq] at e1 e2 e3
      obtain rfl : N = n := e1
      obtain rfl : er = 0 := e3
      have e2' : k + m = p := e2
      obtain ⟨M, g1, g2, g3, g4, _⟩ := Vl.put_go (l.drop k) 9 0 N m hq
      have hNM : N = M := by rw [g1]; simp [Vl.num]
      rw [hNM, g4, ← e2', List.take_add]
      simp
  · cases h1
  · cases h1

theorem recs_put (l : List UInt8) : ∀ (rs : List (Int × Int)) (k : Nat) (acc : List (Int × Int)) (more : List UInt8), rs.all fitsR = true → (∀ r ∈ rs, I64R r) → l.drop k = recB rs ++ more → recsGo l rs.length k acc = (acc ++ rs, k + (recB rs).length, 0)
  | [], k, acc, more, _, _, _ => by simp [recsGo, recB]
  | (a, b) :: rs, k, acc, more, hall, hI, hd => by
    rw [List.all_cons, Bool.and_eq_true] at hall
    obtain ⟨h1, h2⟩ := hall
    have hi : I64R (a, b) := hI (a, b) (by simp)
    obtain ⟨i1, i2, i3, i4⟩ : -9223372036854775808 ≤ a ∧ a ≤ 9223372036854775807 ∧ -9223372036854775808 ≤ b ∧ b ≤ 9223372036854775807 := hi
    have h1' : fitsU a = true ∧ 0 ≤ b := by simpa [fitsR] using h1
    have ha5 : 5 ≤ a := by
      by_cases h : 5 ≤ a
      · exact h
      · have := h1'.1; simp [fitsU, h] at this
    obtain ⟨m1, rfl⟩ := Int.eq_ofNat_of_zero_le (show 0 ≤ a by omega)
    obtain ⟨m2, rfl⟩ := Int.eq_ofNat_of_zero_le h1'.2
    have hrc : recB (((m1 : Int), (m2 : Int)) :: rs) = Vl.put 9 m1 ++ (Vl.put 9 m2 ++ recB rs) := by simp [recB]
    rw [hrc] at hd ⊢
    have hn1 := next_put (l := l) (k := k) (n := m1) (more := Vl.put 9 m2 ++ recB rs ++ more) (by omega) (by rw [hd]; simp)
    have hd2 : l.drop (k + (Vl.put 9 m1).length) = Vl.put 9 m2 ++ (recB rs ++ more) := by
      rw [← List.drop_drop, hd, List.append_assoc, List.drop_left, List.append_assoc]
    have hn2 := next_put (l := l) (n := m2) (by omega) hd2
    have hd3 : l.drop (k + (Vl.put 9 m1).length + (Vl.put 9 m2).length) = recB rs ++ more := by
      rw [← List.drop_drop, hd2, List.drop_left]
    rw [List.length_cons, recsGo_more, hn1, if_neg (fun h => h rfl)]
    simp only []
    rw [h1'.1, if_neg (by simp), hn2, if_neg (fun h => h rfl)]
    simp only []
    rw [recs_put l rs _ _ more h2 (fun r hr => hI r (by simp [hr])) hd3]
    simp only [List.append_assoc, List.length_append, List.cons_append, List.nil_append, Prod.mk.injEq, true_and, and_true]
    omega

theorem recs_back (l : List UInt8) : ∀ (m k : Nat) (acc rs : List (Int × Int)) (p : Nat), k ≤ l.length → recsGo l m k acc = (rs, p, 0) → ∃ new : List (Int × Int), rs = acc ++ new ∧ new.length = m ∧ new.all fitsR = true ∧ (∀ r ∈ new, I64R r) ∧ p ≤ l.length ∧ k + 2 * new.length ≤ p ∧ l.take p = l.take k ++ recB new
  | 0, k, acc, rs, p, hk, h => by
    simp only [recsGo, Prod.mk.injEq, and_true] at h
    obtain ⟨rfl, rfl⟩ := h
    exact ⟨[], by simp, rfl, rfl, by simp, hk, by simp, by simp [recB]⟩
  | m + 1, k, acc, rs, p, hk, h => by
    rw [recsGo_more] at h
    rcases hq1 : nextR l k with ⟨n1, p1, e1⟩
    rw [hq1] at h
    by_cases he1 : e1 = 0
    · subst he1
      rw [if_neg (fun h => h rfl)] at h
      simp only [] at h
      obtain ⟨a1, a2, a3, a4⟩ := put_next hk hq1
      by_cases hf : fitsU (n1 : Nat) = false
      · rw [if_pos hf] at h; simp at h
      · rw [if_neg hf] at h
        have hf' : fitsU (n1 : Nat) = true := by simpa using hf
        rcases hq2 : nextR l p1 with ⟨n2, p2, e2⟩
        rw [hq2] at h
        by_cases he2 : e2 = 0
        · subst he2
          rw [if_neg (fun h => h rfl)] at h
          simp only [] at h
          obtain ⟨b1, b2, b3, b4⟩ := put_next a2 hq2
          obtain ⟨new, c1, c2, c3, c4, c5, c6, c7⟩ := recs_back l m p2 _ rs p b2 h
          refine ⟨((n1 : Int), (n2 : Int)) :: new, by rw [c1]; simp, by simp [c2], ?_, ?_, c5, ?_, ?_⟩
          · rw [List.all_cons, c3]; simp [fitsR, hf']
          · intro r hr
            rcases List.mem_cons.1 hr with rfl | hr
            · exact ⟨by show (-9223372036854775808 : Int) ≤ (n1 : Int); omega, by show (n1 : Int) ≤ 9223372036854775807; omega, by show (-9223372036854775808 : Int) ≤ (n2 : Int); omega, by show (n2 : Int) ≤ 9223372036854775807; omega⟩
            · exact c4 r hr
          · rw [List.length_cons]; omega
          · rw [c7, b4, a4]; simp [recB]
        · rw [if_pos he2] at h
          simp only [Prod.mk.injEq] at h
          exact absurd h.2.2 he2
    · rw [if_pos he1] at h
      simp only [Prod.mk.injEq] at h
      exact absurd h.2.2 he1

theorem zr_put (l : List UInt8) : ∀ (z a : Nat) (more : List UInt8), l.drop a = List.replicate z 0 ++ more → zr l z a = (a + z, 0)
  | 0, a, _, _ => rfl
  | z + 1, a, more, h => by
    have hlt : ¬ l.length ≤ a := by intro h2; rw [List.drop_eq_nil_of_le h2] at h; simp [List.replicate_succ] at h
    have hg : l.getD a 0 = 0 := by
      have : (l.drop a)[0]? = some 0 := by rw [h]; rfl
      rw [List.getElem?_drop] at this; simp only [Nat.add_zero] at this
      rw [List.getD_eq_getElem?_getD, this]; rfl
    have hd : l.drop (a + 1) = List.replicate z 0 ++ more := by
      have : l.drop (a + 1) = (l.drop a).drop 1 := by rw [List.drop_drop]
      rw [this, h]; rfl
    rw [zr, if_neg hlt, if_neg (fun h => h hg), zr_put l z (a + 1) more hd]
    congr 1; omega
theorem zr_back (l : List UInt8) : ∀ (z a q : Nat), a ≤ l.length → zr l z a = (q, 0) → q = a + z ∧ q ≤ l.length ∧ l.take q = l.take a ++ List.replicate z 0
  | 0, a, q, ha, h => by
    simp only [zr, Prod.mk.injEq, and_true] at h
    subst h
    exact ⟨rfl, ha, by simp⟩
  | z + 1, a, q, ha, h => by
    rw [zr] at h
    by_cases h1 : l.length ≤ a
    · rw [if_pos h1] at h; simp at h
    rw [if_neg h1] at h
    by_cases h2 : l.getD a 0 ≠ 0
    · rw [if_pos h2] at h; simp at h
    rw [if_neg h2] at h
    obtain ⟨g1, g2, g3⟩ := zr_back l z (a + 1) q (by omega) h
    refine ⟨by omega, g2, ?_⟩
    have h2' : l.getD a 0 = 0 := by simpa using h2
    have ht : l.take (a + 1) = l.take a ++ [0] := by
      rw [List.take_succ_eq_append_getElem (by omega)]
      congr 2
      rw [← h2']; simp [List.getD, show a < l.length by omega]
    rw [g3, ht, List.replicate_succ]; simp

theorem end_put (body behind : List UInt8) : endR (padB body ++ sum1 (padB body) ++ behind) body.length = ((padB body).length + 4, 0) := by
  have hz := zr_put (padB body ++ sum1 (padB body) ++ behind) (zerosN body.length) body.length (sum1 (padB body) ++ behind) (by
    simp only [padB, List.append_assoc]; rw [List.drop_left])
  have hl : (padB body).length = body.length + zerosN body.length := by simp [padB]
  unfold endR
  rw [hz, if_neg (fun h => h rfl)]
  simp only []
  rw [← hl]
  have h4 := sum1_length (padB body)
  unfold crcR
  rw [if_neg (by simp only [List.length_append]; omega)]
  have hp : part (padB body ++ sum1 (padB body) ++ behind) (padB body).length 4 = sum1 (padB body) := by
    unfold part
    rw [List.append_assoc, List.drop_left, ← h4, List.take_left]
  have ht : (padB body ++ sum1 (padB body) ++ behind).take (padB body).length = padB body := by rw [List.append_assoc, List.take_left]
  rw [hp, ht, if_neg (by simp)]
theorem end_back {l : List UInt8} {a n : Nat} (ha : a ≤ l.length) (h : endR l a = (n, 0)) : n ≤ l.length ∧ l.take n = padB (l.take a) ++ sum1 (padB (l.take a)) := by
  unfold endR at h
  rcases hq : zr l (zerosN a) a with ⟨q, e⟩
  rw [hq] at h
  by_cases he : e = 0
  · subst he
    rw [if_neg (fun h => h rfl)] at h
    simp only [] at h
    obtain ⟨g1, g2, g3⟩ := zr_back l _ a q ha hq
    have hta : (l.take a).length = a := by rw [List.length_take]; omega
    have hp : l.take q = padB (l.take a) := by rw [g3]; unfold padB; rw [hta]
    unfold crcR at h
    by_cases h4 : l.length < q + 4
    · rw [if_pos h4] at h; simp at h
    · rw [if_neg h4] at h
      by_cases hs : (part l q 4 == sum1 (l.take q)) = false
      · rw [if_pos hs] at h; simp at h
      · rw [if_neg hs] at h
        simp only [Prod.mk.injEq, and_true] at h
        have hs' : part l q 4 = sum1 (l.take q) := by simpa using hs
        refine ⟨by omega, ?_⟩
        rw [← h, List.take_add, ← hp]
        exact congrArg (l.take q ++ ·) hs'
  · rw [if_pos he] at h
    simp only [Prod.mk.injEq] at h
    exact absurd h.2 he

theorem getR_put (l : List (Int × Int)) (behind : List UInt8) (hl : l.length ≤ 1000000) (hall : l.all fitsR = true) (hI : ∀ r ∈ l, I64R r) : getR (putR l ++ behind) = (l, (putR l).length, 0) := by
  have hb : putR l ++ behind = 0 :: (Vl.put 9 l.length ++ (recB l ++ (List.replicate (zerosN (bodyB l).length) 0 ++ (sum1 (padB (bodyB l)) ++ behind)))) := by
    simp [putR, padB, bodyB, headB]
  have hn := next_put (l := putR l ++ behind) (k := 1) (n := l.length) (by omega) (by rw [hb]; rfl)
  have hd : (putR l ++ behind).drop (1 + (Vl.put 9 l.length).length) = recB l ++ (List.replicate (zerosN (bodyB l).length) 0 ++ (sum1 (padB (bodyB l)) ++ behind)) := by
    rw [hb, Nat.add_comm, List.drop_succ_cons, List.drop_left]
  have hr := recs_put (putR l ++ behind) l _ [] _ hall hI hd
  have hrr : recsR (putR l ++ behind) 1 = (l, (bodyB l).length, 0) := by
    unfold recsR
    rw [hn, if_neg (fun h => h rfl)]
    simp only []
    rw [hr]
    simp only [List.nil_append, bodyB, headB, List.length_append, List.length_cons, Prod.mk.injEq, true_and, and_true]
    omega
  have he : endR (putR l ++ behind) (bodyB l).length = ((padB (bodyB l)).length + 4, 0) := end_put (bodyB l) behind
  unfold getR
  rw [if_neg (by rw [hb]; simp), if_neg (by rw [hb]; simp), hrr, if_neg (fun h => h rfl)]
  simp only []
  rw [he, if_neg (fun h => h rfl)]
  have h4 := sum1_length (padB (bodyB l))
  simp only [putR, List.length_append, h4]
theorem putR_get {b : List UInt8} {l : List (Int × Int)} {n : Nat} (h : getR b = (l, n, 0)) : n ≤ b.length ∧ 2 * l.length ≤ b.length ∧ l.all fitsR = true ∧ (∀ r ∈ l, I64R r) ∧ putR l = b.take n := by
  unfold getR at h
  by_cases h0 : b.length = 0
  · rw [if_pos h0] at h; simp at h
  rw [if_neg h0] at h
  by_cases h1 : b.getD 0 0 ≠ 0
  · rw [if_pos h1] at h; simp at h
  rw [if_neg h1] at h
  have h1' : b.getD 0 0 = 0 := by simpa using h1
  have ht1 : b.take 1 = [0] := by
    cases b with
    | nil => simp at h0
    | cons x b => simp at h1'; simp [h1']
  rcases hq : recsR b 1 with ⟨rs, p, e⟩
  rw [hq] at h
  by_cases he : e = 0
  · subst he
    rw [if_neg (fun h => h rfl)] at h
    simp only [] at h
    unfold recsR at hq
    rcases hn : nextR b 1 with ⟨m, k, e1⟩
    rw [hn] at hq
    by_cases he1 : e1 = 0
    · subst he1
      rw [if_neg (fun h => h rfl)] at hq
      simp only [] at hq
      obtain ⟨a1, a2, a3, a4⟩ := put_next (by omega) hn
      obtain ⟨new, c1, c2, c3, c4, c5, c6, c7⟩ := recs_back b m k [] rs p a2 hq
      rw [List.nil_append] at c1
      subst c1
      rcases hE : endR b p with ⟨q, e2⟩
      rw [hE] at h
      by_cases he2 : e2 = 0
      · subst he2
        rw [if_neg (fun h => h rfl)] at h
        simp only [Prod.mk.injEq, and_true] at h
        obtain ⟨rfl, rfl⟩ := h
        obtain ⟨d1, d2⟩ := end_back c5 hE
        have hbd : b.take p = bodyB rs := by
          rw [c7, a4, ht1, bodyB, headB, c2]; simp
        exact ⟨d1, by omega, c3, c4, by rw [d2, hbd]; rfl⟩
      · rw [if_pos he2] at h
        simp only [Prod.mk.injEq] at h
        exact absurd h.2.2 he2
    · rw [if_pos he1] at hq
      simp only [Prod.mk.injEq] at hq
      exact absurd hq.2.2 he1
  · rw [if_pos he] at h
    simp only [Prod.mk.injEq] at h
    exact absurd h.2.2 he
end Go.Proofs.YthfmhjpmcapcbaaDoor
