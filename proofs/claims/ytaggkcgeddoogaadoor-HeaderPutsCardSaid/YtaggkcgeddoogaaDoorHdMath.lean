/- Mathematics: what is got of a head's bytes is that head. -/
import Derived.Test.YtaggkcgeddoogaaDoorHdAs
namespace Go.Proofs.YtaggkcgeddoogaaDoor
open Go.RowKit

theorem get_put (n : Nat) (more : List UInt8) (h : n < 9223372036854775808) : Vl.get (Vl.put 9 n ++ more) = (n, (Vl.put 9 n).length, 0) := by
  have h9 : n < 128 ^ 9 := by rw [show (128 : Nat) ^ 9 = 9223372036854775808 by decide]; exact h
  have e : Vl.put 9 n = Vl.put 8 n := by
    have key : ∀ (f m : Nat), m < 128 ^ (f + 1) → Vl.put (f + 1) m = Vl.put f m := by
      intro f
      induction f with
      | zero => intro m hm; rw [Vl.put_small (by simpa using hm), Vl.put_small (by simpa using hm)]
      | succ f ih =>
        intro m hm
        by_cases hs : m < 128
        · rw [Vl.put_small hs, Vl.put_small hs]
        · rw [Vl.put_big hs, Vl.put_big hs, ih (m / 128) (by rw [Nat.div_lt_iff_lt_mul (by omega)]; rw [Nat.pow_succ] at hm; exact hm)]
    exact key 8 n h9
  have := Vl.go_put (Vl.put 9 n ++ more) more 8 n 0 9 (by rw [e]; rfl) h9 (by omega) (by omega)
  unfold Vl.get
  rw [this, e]
  simp [Vl.num]
theorem optB_get {x : Int} (z : Bool) (more : List UInt8) (hlo : x = -1 ∨ 0 ≤ x) (hhi : x ≤ 9223372036854775807) (hz : z = true → x ≠ 0) : optM (decide (x ≠ -1)) z (optB x ++ more) = some (x, more) := by
  unfold optM optB
  by_cases h : x = -1
  · subst h; simp
  · have h0 : 0 ≤ x := by omega
    rw [if_pos (by simp [h]), if_neg h]
    have hn : nextM (Vl.put 9 x.toNat ++ more) = some (x.toNat, more) := by
      unfold nextM
      rw [get_put x.toNat more (by omega)]
      rw [if_pos rfl, List.drop_left]
    rw [hn]
    have hx : ((x.toNat : Nat) : Int) = x := by omega
    have : (z && x.toNat == 0) = false := by
      cases z with
      | false => rfl
      | true => have := hz rfl; simp; omega
    simp only [this, Bool.false_eq_true, if_false, hx]
theorem one_put (f : Fil) (h : GoodF f) (more : List UInt8) : oneM (filB f ++ more) = (f, more, 0) := by
  obtain ⟨hok, h0, h33, hb, hl⟩ := h
  have n1 : nextM (filB f ++ more) = some (f.id.toNat, Vl.put 9 (propB f).length ++ (propB f ++ more)) := by
    unfold nextM filB
    rw [List.append_assoc, List.append_assoc, get_put _ _ (by omega), if_pos rfl, List.drop_left]
  have n2 : nextM (Vl.put 9 (propB f).length ++ (propB f ++ more)) = some ((propB f).length, propB f ++ more) := by
    unfold nextM
    rw [get_put _ _ (by omega), if_pos rfl, List.drop_left]
  have hid : ((f.id.toNat : Nat) : Int) = f.id := by omega
  unfold oneM
  simp only [n1, n2]
  rw [if_neg (by simp), if_neg (by omega), List.take_left, hid, read_bytes f hok _ hb]
  simp only [List.drop_left]
theorem fils_put (many : Nat) : ∀ (fs : List Fil) (i : Nat) (acc : List Fil) (more : List UInt8), (∀ f ∈ fs, GoodF f) → (∀ j (h : j < fs.length), (fs[j].id == 33) = (i + j == many)) → filsM many fs.length i (filsB fs ++ more) acc = (acc ++ fs, more, 0)
  | [], i, acc, more, _, _ => by simp [filsM, filsB]
  | f :: fs, i, acc, more, hg, hj => by
    have e0 : filsB (f :: fs) ++ more = filB f ++ (filsB fs ++ more) := by simp [filsB]
    have h1 := one_put f (hg f (by simp)) (filsB fs ++ more)
    have h0 := hj 0 (by simp)
    simp only [List.getElem_cons_zero, Nat.add_zero] at h0
    rw [List.length_cons, filsM_more, e0, h1]
    rw [if_neg (by simp), if_neg (by rw [h0]; simp)]
    rw [fils_put many fs (i + 1) (acc ++ [f]) more (fun g hm => hg g (by simp [hm])) (fun j h => by
      have := hj (j + 1) (by simpa using h)
      simp only [List.getElem_cons_succ] at this
      rw [this]; congr 1; omega)]
    simp
theorem zeros_all (n : Nat) : (List.replicate n (0 : UInt8)).all (· == 0) = true := by
  rw [List.all_eq_true]; intro x hx; rw [List.eq_of_mem_replicate hx]; rfl
theorem parts_put (h : HeadM) (hok : h.ok) (hf : ∀ f ∈ h.l, f.ok) (hv : validB h = true) (n : Nat) : partsM (secondB h) (restB h ++ List.replicate n 0) = (h, 0) := by
  obtain ⟨hg, h3, hp, hq⟩ := good_all h hok hf hv
  obtain ⟨o1, o2, o3, o4, o5⟩ := hok
  have hids : ∀ f ∈ h.l, f.id ≠ 33 := fun f hm e => by
    have hv2 := hv
    simp only [validB, mayL, Bool.and_eq_true, List.all_eq_true] at hv2
    have h5 := hv2.1.2.2 f hm
    obtain ⟨id, m⟩ := f
    obtain rfl : id = 33 := e
    rw [fit33] at h5; cases h5
  have s1 : (secondB h / 64 % 2 == 1) = decide (h.p ≠ -1) := by
    unfold secondB
    rw [Bool.eq_iff_iff]
    by_cases h1 : h.p = -1 <;> by_cases h2 : h.q = -1 <;> simp [h1, h2] <;> omega
  have s2 : (secondB h / 128 == 1) = decide (h.q ≠ -1) := by
    unfold secondB
    rw [Bool.eq_iff_iff]
    by_cases h1 : h.p = -1 <;> by_cases h2 : h.q = -1 <;> simp [h1, h2] <;> omega
  have s3 : secondB h % 4 = h.l.length := by
    unfold secondB
    by_cases h1 : h.p = -1 <;> by_cases h2 : h.q = -1 <;> simp [h1, h2] <;> omega
  have hs : sizesM (secondB h) (restB h ++ List.replicate n 0) = some (h.p, h.q, filsB (h.l ++ [lastF h.d]) ++ List.replicate n 0) := by
    rw [sizesM_of, s1, s2]
    unfold restB
    rw [List.append_assoc, List.append_assoc, optB_get true _ (by omega) o2 (fun _ => by omega)]
    simp only
    rw [optB_get false _ (by omega) o4 (by simp)]
  have hfl := fils_put h.l.length (h.l ++ [lastF h.d]) 0 [] (List.replicate n 0) hg (fun j hj => by
    rw [List.length_append, List.length_singleton] at hj
    by_cases hjl : j < h.l.length
    · have hne := hids _ (List.getElem_mem hjl)
      rw [List.getElem_append_left hjl]
      have e1 : ((h.l[j]).id == 33) = false := by simp [hne]
      have e2 : (0 + j == h.l.length) = false := by simp; omega
      rw [e1, e2]
    · obtain rfl : j = h.l.length := by omega
      rw [List.getElem_append_right (Nat.le_refl _)]
      simp [lastF])
  rw [List.length_append, List.length_singleton, List.nil_append] at hfl
  rw [partsM_of, hs, s3]
  simp only [hfl]
  rw [if_neg (by simp), if_neg (by rw [zeros_all]; simp)]
  have e1 : (h.l ++ [lastF h.d]).take h.l.length = h.l := by rw [List.take_left]
  have e2 : ((h.l ++ [lastF h.d]).getD h.l.length ⟨0, 0⟩).n = h.d := by simp [List.getD, lastF]
  rw [e1, e2]
theorem openB_length (h : HeadM) (hok : h.ok) (hf : ∀ f ∈ h.l, f.ok) (hv : validB h = true) : 5 ≤ (openB h).length ∧ (openB h).length ≤ 120 := by
  obtain ⟨hg, h3, _, _⟩ := good_all h hok hf hv
  have a1 := optB_length h.p
  have a2 := optB_length h.q
  have a3 := filsB_length _ hg
  have a4 : 3 ≤ (filB (lastF h.d)).length := by
    have hl := hg (lastF h.d) (by simp)
    have p1 : 0 < (Vl.put 9 (lastF h.d).id.toNat).length := (Vl.put_length 9 _).1
    have p2 : 0 < (Vl.put 9 (propB (lastF h.d)).length).length := (Vl.put_length 9 _).1
    have p3 : (propB (lastF h.d)).length = 1 := by
      have hb := hl.2.2.2.1
      unfold bytesL lastF at hb
      rw [if_pos rfl] at hb
      split at hb
      · injection hb with hb
        have : (propB ⟨33, h.d⟩).length = 1 := by rw [← hb]; rfl
        exact this
      · cases hb
    simp only [filB, List.length_append]; omega
  have a5 : (filsB (h.l ++ [lastF h.d])).length = (filsB h.l).length + (filB (lastF h.d)).length := by rw [filsB_snoc, List.length_append]
  have a6 : (openB h).length = (optB h.p).length + (optB h.q).length + (filsB (h.l ++ [lastF h.d])).length + 2 := by
    simp only [openB, restB, List.length_cons, List.length_append]
  rw [List.length_append, List.length_singleton] at a3
  omega
theorem putH_length (h : HeadM) (hok : h.ok) (hf : ∀ f ∈ h.l, f.ok) (hv : validB h = true) : (putH h).length = (padB (openB h)).length + 4 ∧ (padB (openB h)).length % 4 = 0 ∧ 8 ≤ (padB (openB h)).length ∧ (padB (openB h)).length ≤ 124 := by
  have a := openB_length h hok hf hv
  have e : (padB (openB h)).length = (openB h).length + zerosN (openB h).length := by simp [padB]
  refine ⟨by rw [putH, List.length_append, sum1_length, bodyH, List.length_set], ?_, ?_, ?_⟩
  · rw [e]; unfold zerosN; omega
  · rw [e]; unfold zerosN; omega
  · rw [e]; unfold zerosN; omega
theorem getHd_put (h : HeadM) (behind : List UInt8) (hok : h.ok) (hf : ∀ f ∈ h.l, f.ok) (hv : validB h = true) : getHd (putH h ++ behind) = (h, (putH h).length, 0) := by
  obtain ⟨hL, hm, h8, h124⟩ := putH_length h hok hf hv
  have hrest := parts_put h hok hf hv (zerosN (openB h).length)
  obtain ⟨hg, h3, hp, hq⟩ := good_all h hok hf hv
  have hbl : (bodyH h).length = (padB (openB h)).length := by rw [bodyH, List.length_set]
  have e0 : (putH h ++ behind).getD 0 0 = UInt8.ofNat ((padB (openB h)).length / 4) := by
    have : 0 < (bodyH h).length := by omega
    rw [putH, List.append_assoc]
    simp only [List.getD]
    rw [List.getElem?_append_left this]
    simp only [bodyH, List.getElem?_set_self (show 0 < (padB (openB h)).length by omega)]
    rfl
  have e1 : (putH h ++ behind).getD 1 0 = UInt8.ofNat (secondB h) := by
    have : 1 < (bodyH h).length := by omega
    rw [putH, List.append_assoc]
    simp only [List.getD]
    rw [List.getElem?_append_left this]
    simp only [bodyH, List.getElem?_set_ne (show 0 ≠ 1 by omega)]
    rfl
  have t0 : ((putH h ++ behind).getD 0 0).toNat = (padB (openB h)).length / 4 := by rw [e0, ofNat_small _ (by omega)]
  have hsz : sizeB (putH h ++ behind) = (padB (openB h)).length + 4 := by unfold sizeB; rw [t0]; omega
  have hs4 : sizeB (putH h ++ behind) - 4 = (bodyH h).length := by omega
  have htk : (putH h ++ behind).take (sizeB (putH h ++ behind) - 4) = bodyH h := by rw [hs4, putH, List.append_assoc, List.take_left]
  have hpt : part (putH h ++ behind) (sizeB (putH h ++ behind) - 4) 4 = sum1 (bodyH h) := by
    unfold part
    have h4 : (sum1 (bodyH h)).length = 4 := sum1_length _
    rw [hs4, putH, List.append_assoc, List.drop_left, List.take_append_of_le_length (by omega), List.take_of_length_le (by omega)]
  have hse : sealM (putH h ++ behind) = (bodyH h, 0) := by
    unfold sealM
    rw [if_neg (by rw [List.length_append]; omega), if_neg (by
      intro e; rw [e] at t0
      have : (0 : UInt8).toNat = 0 := rfl
      omega), if_neg (by rw [hsz, List.length_append, hL]; omega), if_neg (by rw [htk, hpt]; simp), htk]
  have hs256 : secondB h < 256 := by
    unfold secondB
    by_cases h1 : h.p = -1 <;> by_cases h2 : h.q = -1 <;> simp [h1, h2] <;> omega
  have hs16 : secondB h / 4 % 16 = 0 := by
    unfold secondB
    by_cases h1 : h.p = -1 <;> by_cases h2 : h.q = -1 <;> simp [h1, h2] <;> omega
  have hd2 : (bodyH h).drop 2 = restB h ++ List.replicate (zerosN (openB h).length) 0 := by
    unfold bodyH padB openB
    rfl
  unfold getHd
  rw [hse, e1, ofNat_small _ hs256]
  simp only
  rw [if_neg (by simp), if_neg (by rw [hs16]; simp), hd2, hrest]
  simp only
  rw [if_neg (by simp), hsz, hL]
end Go.Proofs.YtaggkcgeddoogaaDoor
