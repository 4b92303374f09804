/- Plain mathematics: bytes that differ within 32 bits that stand together have unlike CRC-32 registers. -/
import Derived.Test.YtkcimaebkjinfaaCrcFour
namespace Go.Proofs.Ytkcimaebkjinfaa
open Go.RowKit

theorem ext_xor (a b : UInt8) : Crc.ext 32 (a ^^^ b) = Crc.ext 32 a ^^^ Crc.ext 32 b := by
  unfold Crc.ext; rw [UInt8.toBitVec_xor, BitVec.setWidth_xor]

theorem eats_zip (a b : List UInt8) (h : a.length = b.length) (x y : BitVec 32) :
    Crc.eats P32 (x ^^^ y) (List.zipWith (· ^^^ ·) a b) = Crc.eats P32 x a ^^^ Crc.eats P32 y b := by
  induction a generalizing b x y with
  | nil => cases b with
    | nil => rfl
    | cons _ _ => simp at h
  | cons u a ih => cases b with
    | nil => simp at h
    | cons v b =>
      simp only [List.zipWith_cons_cons, Crc.eats, List.foldl_cons]
      have e : Crc.eat P32 (x ^^^ y) (u ^^^ v) = Crc.eat P32 x u ^^^ Crc.eat P32 y v := by
        unfold Crc.eat
        rw [ext_xor, ← Crc.sn_xor]; congr 1; ac_rfl
      rw [e]
      exact ih b (by simpa using h) _ _

theorem eat_zero (y : BitVec 32) : Crc.eat P32 y 0 = Crc.sn P32 8 y := by
  unfold Crc.eat
  have e : Crc.ext 32 0 = 0#32 := by decide
  rw [e, BitVec.xor_zero]

theorem eats_zeros_zero (f : Nat) : Crc.eats P32 0#32 (List.replicate f 0) = 0#32 := by
  induction f with
  | zero => rfl
  | succ f ih =>
    simp only [List.replicate_succ, Crc.eats, List.foldl_cons] at ih ⊢
    rw [eat_zero, Crc.sn_zero]; exact ih

theorem eats_zeros_inj (r : Nat) (y : BitVec 32) (h : Crc.eats P32 y (List.replicate r 0) = 0#32) : y = 0#32 := by
  induction r generalizing y with
  | zero => exact h
  | succ r ih =>
    simp only [List.replicate_succ, Crc.eats, List.foldl_cons] at h
    rw [eat_zero] at h
    exact Crc.sn_inj P32 (by decide) 8 y (ih _ h)

/-- The k-th byte of a number. -/
def nth (n k : Nat) : UInt8 := UInt8.ofNat (n / 2 ^ (8 * k) % 256)
theorem nth_nat (n k : Nat) : (nth n k).toNat = n / 2 ^ (8 * k) % 256 := by
  unfold nth; rw [UInt8.toNat_ofNat']; omega

/-- What is turned in n bytes: the number's bytes at place f, j of them. -/
def turns (n f j bs : Nat) : List UInt8 := (List.range n).map fun i => if f ≤ i ∧ i < f + j then nth bs (i - f) else 0
def mixed (l : List UInt8) (f j bs : Nat) : List UInt8 := List.zipWith (· ^^^ ·) l (turns l.length f j bs)

theorem turns_length (n f j bs : Nat) : (turns n f j bs).length = n := by simp [turns]
theorem mixed_length (l : List UInt8) (f j bs : Nat) : (mixed l f j bs).length = l.length := by simp [mixed, turns_length]

theorem turns_split (n f m bs : Nat) (h : f + m ≤ n) : turns n f m bs = List.replicate f 0 ++ ((List.range m).map (nth bs) ++ List.replicate (n - f - m) 0) := by
  apply List.ext_getElem
  · simp [turns]; omega
  · intro i h1 h2
    simp only [turns, List.getElem_map, List.getElem_range, List.getElem_append, List.length_replicate, List.length_map, List.length_range, List.getElem_replicate]
    by_cases hf : i < f
    · simp [hf, show ¬ (f ≤ i ∧ i < f + m) by omega]
    · by_cases hm : i < f + m
      · simp [hf, show i - f < m by omega, show f ≤ i ∧ i < f + m by omega]
      · simp [hf, show ¬ i - f < m by omega, show ¬ (f ≤ i ∧ i < f + m) by omega]

theorem word4_nat (b0 b1 b2 b3 : UInt8) : (word4 b0 b1 b2 b3).toNat = b0.toNat + b1.toNat * 256 + b2.toNat * 65536 + b3.toNat * 16777216 := by
  have h0 := b0.toNat_lt
  have h1 := b1.toNat_lt
  have h2 := b2.toNat_lt
  have h3 := b3.toNat_lt
  unfold word4
  rw [BitVec.toNat_or, BitVec.toNat_or, BitVec.toNat_or, ext_shl _ _ (by omega), ext_shl _ _ (by omega), ext_shl _ _ (by omega), ext_nat]
  rw [Nat.or_comm (b0.toNat), nat_join 8 (b1.toNat * 2 ^ 8) b0.toNat (by omega) (by omega)]
  rw [Nat.or_comm _ (b2.toNat * 2 ^ 16), nat_join 16 (b2.toNat * 2 ^ 16) _ (by omega) (by omega)]
  rw [Nat.or_comm _ (b3.toNat * 2 ^ 24), nat_join 24 (b3.toNat * 2 ^ 24) _ (by omega) (by omega)]
  omega

theorem low_zero (x : BitVec 32) (k : Nat) (h : x.toNat % 2 ^ k = 0) : ∀ i, i < k → x.getLsbD i = false := by
  intro i hi
  have e : x.toNat = 2 ^ k * (x.toNat / 2 ^ k) := by
    have := Nat.div_add_mod x.toNat (2 ^ k); omega
  rw [BitVec.getLsbD, e, Nat.testBit_two_pow_mul]
  simp [show ¬ k ≤ i by omega]

/-- The heart: a number t of 32 bits, s places up, that enters bit by bit, leaves no register of zeros. -/
theorem burst5 (t s : Nat) (ht : t < 4294967296) (hs : s < 8) (h : Crc.eats P32 0#32 ((List.range 5).map (nth (t * 2 ^ s))) = 0#32) : t = 0 := by
  have hp : 0 < 2 ^ s := Nat.two_pow_pos s
  have hM : 2 ^ (32 - s) * 2 ^ s = 4294967296 := by rw [← Nat.pow_add, show 32 - s + s = 32 by omega]
  have hs8 : 2 ^ s ≤ 128 := by
    have := Nat.pow_le_pow_right (show 0 < 2 by omega) (show s ≤ 7 by omega); omega
  generalize hMd : 2 ^ (32 - s) = M at *
  have hMp : 0 < M := by rw [← hMd]; exact Nat.two_pow_pos _
  -- the five bytes
  have hl : (List.range 5).map (nth (t * 2 ^ s)) = [nth (t * 2 ^ s) 0, nth (t * 2 ^ s) 1, nth (t * 2 ^ s) 2, nth (t * 2 ^ s) 3] ++ [nth (t * 2 ^ s) 4] := rfl
  rw [hl, Crc.eats_append, eats4, BitVec.zero_xor] at h
  -- the low word and the high rest
  have hW : (word4 (nth (t * 2 ^ s) 0) (nth (t * 2 ^ s) 1) (nth (t * 2 ^ s) 2) (nth (t * 2 ^ s) 3)).toNat = (t % M) * 2 ^ s := by
    have hr : (t % M) * 2 ^ s = t * 2 ^ s % 4294967296 := by rw [← hM, Nat.mul_mod_mul_right]
    rw [hr, word4_nat, nth_nat, nth_nat, nth_nat, nth_nat]
    simp only [Nat.mul_zero, Nat.pow_zero, Nat.div_one, Nat.mul_one, Nat.reduceMul, Nat.reducePow]
    omega
  generalize word4 (nth (t * 2 ^ s) 0) (nth (t * 2 ^ s) 1) (nth (t * 2 ^ s) 2) (nth (t * 2 ^ s) 3) = W at *
  have hq : t * 2 ^ s / 4294967296 = t / M := by rw [← hM, Nat.mul_div_mul_right _ _ hp]
  have hth : t / M < 2 ^ s := by
    rw [Nat.div_lt_iff_lt_mul hMp, Nat.mul_comm]; omega
  have h4 : Crc.ext 32 (nth (t * 2 ^ s) 4) = BitVec.ofNat 32 (t / M) := by
    apply BitVec.eq_of_toNat_eq
    rw [ext_nat, nth_nat, BitVec.toNat_ofNat]
    simp only [Nat.reduceMul, Nat.reducePow]
    rw [hq]; omega
  -- strip the last byte
  have h5 : Crc.sn P32 32 W ^^^ BitVec.ofNat 32 (t / M) = 0#32 := by
    apply Crc.sn_inj P32 (by decide) 8
    rw [← h4]; exact h
  -- s shifts of the low word bring it down
  have hlow : Crc.sn P32 s W = BitVec.ofNat 32 (t % M) := by
    rw [Crc.sn_high P32 s W (low_zero W s (by rw [hW]; exact Nat.mul_mod_left _ _))]
    apply BitVec.eq_of_toNat_eq
    rw [BitVec.toNat_ushiftRight, Nat.shiftRight_eq_div_pow, hW, Nat.mul_div_cancel _ hp, BitVec.toNat_ofNat]
    have : t % M < M := Nat.mod_lt _ hMp
    have : M * 1 ≤ M * 2 ^ s := Nat.mul_le_mul_left _ hp
    rw [Nat.mod_eq_of_lt (show t % M < 2 ^ 32 by omega)]
  have e32 : Crc.sn P32 32 W = Crc.sn P32 (32 - s) (BitVec.ofNat 32 (t % M)) := by
    rw [← hlow, ← Crc.sn_add, show s + (32 - s) = 32 by omega]
  -- the high rest might have entered 32 - s places up
  have hupn : (BitVec.ofNat 32 (t / M) <<< (32 - s)).toNat = t / M * M := by
    rw [BitVec.toNat_shiftLeft, BitVec.toNat_ofNat, Nat.shiftLeft_eq, hMd]
    have : t / M * M ≤ t := Nat.div_mul_le_self _ _
    rw [Nat.mod_eq_of_lt (show t / M < 2 ^ 32 by omega), Nat.mod_eq_of_lt (by omega)]
  have hup : Crc.sn P32 (32 - s) (BitVec.ofNat 32 (t / M) <<< (32 - s)) = BitVec.ofNat 32 (t / M) := by
    rw [Crc.sn_high P32 (32 - s) _ (low_zero _ _ (by rw [hupn, hMd]; exact Nat.mul_mod_left _ _))]
    apply BitVec.eq_of_toNat_eq
    rw [BitVec.toNat_ushiftRight, Nat.shiftRight_eq_div_pow, hupn, hMd, Nat.mul_div_cancel _ hMp, BitVec.toNat_ofNat]
    omega
  rw [e32, ← hup, ← Crc.sn_xor] at h5
  have h6 := Crc.sn_inj P32 (by decide) _ _ h5
  have h7 : BitVec.ofNat 32 (t % M) = BitVec.ofNat 32 (t / M) <<< (32 - s) := by
    have := congrArg (· ^^^ (BitVec.ofNat 32 (t / M) <<< (32 - s))) h6
    simpa [BitVec.xor_assoc] using this
  have h8 := congrArg BitVec.toNat h7
  rw [hupn, BitVec.toNat_ofNat] at h8
  have hlt : t % M < M := Nat.mod_lt _ hMp
  have hMle : M * 1 ≤ M * 2 ^ s := Nat.mul_le_mul_left _ hp
  rw [Nat.mod_eq_of_lt (show t % M < 2 ^ 32 by omega)] at h8
  have h9 := Nat.div_add_mod t M
  rcases Nat.eq_zero_or_pos (t / M) with h0 | h0
  · rw [h0] at h8 h9; omega
  · have : 1 * M ≤ t / M * M := Nat.mul_le_mul_right _ h0
    omega
theorem burst4 (t : Nat) (ht : t < 4294967296) (h : Crc.eats P32 0#32 ((List.range 4).map (nth t)) = 0#32) : t = 0 := by
  have hl : (List.range 4).map (nth t) = [nth t 0, nth t 1, nth t 2, nth t 3] := rfl
  rw [hl, eats4, BitVec.zero_xor] at h
  have h1 := congrArg BitVec.toNat (Crc.sn_inj P32 (by decide) _ _ h)
  rw [word4_nat, nth_nat, nth_nat, nth_nat, nth_nat] at h1
  simp only [Nat.mul_zero, Nat.pow_zero, Nat.div_one, Nat.mul_one, Nat.reduceMul, Nat.reducePow, BitVec.toNat_ofNat, Nat.zero_mod] at h1
  omega

/-- Bytes of which 32 bits that stand together are turned have another register. -/
theorem burst_ne (l : List UInt8) (x : BitVec 32) (f s t : Nat) (h5 : 5 ≤ l.length) (ht0 : t ≠ 0) (ht : t < 4294967296) (hs : s < 8) (hf : 8 * f + s ≤ 8 * l.length - 32) (m : Nat) (hm : m = min 5 (l.length - f)) :
    Crc.eats P32 x (mixed l f m (t * 2 ^ s)) ≠ Crc.eats P32 x l := by
  intro h
  have hz := eats_zip l (turns l.length f m (t * 2 ^ s)) (by rw [turns_length]) x 0#32
  rw [BitVec.xor_zero] at hz
  change Crc.eats P32 x (mixed l f m (t * 2 ^ s)) = _ at hz
  rw [h] at hz
  have h0 : Crc.eats P32 0#32 (turns l.length f m (t * 2 ^ s)) = 0#32 := by
    have := congrArg (Crc.eats P32 x l ^^^ ·) hz
    simp only [← BitVec.xor_assoc, BitVec.xor_self, BitVec.zero_xor] at this
    exact this.symm
  rw [turns_split _ _ _ _ (by omega), Crc.eats_append, eats_zeros_zero, Crc.eats_append] at h0
  have h1 := eats_zeros_inj _ _ h0
  by_cases hlen : f + 5 ≤ l.length
  · have e : m = 5 := by omega
    rw [e] at h1
    exact ht0 (burst5 t s ht hs h1)
  · have e : m = 4 := by omega
    have e2 : s = 0 := by omega
    rw [e, e2, Nat.pow_zero, Nat.mul_one] at h1
    exact ht0 (burst4 t ht h1)
end Go.Proofs.Ytkcimaebkjinfaa
