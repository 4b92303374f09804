/- Plain mathematics: a head, or a foot, that is turned in one bit is none. -/
import Derived.Test.YtibkhajhmncgkaaDoorFlLaws
import Derived.Test.YtibkhajhmncgkaaDoorFlFoot
namespace Go.Proofs.YtibkhajhmncgkaaDoor
open Go.RowKit

def mask (i : Nat) : UInt8 := UInt8.ofNat (2 ^ (i % 8))
def turn (L : List UInt8) (i : Nat) : List UInt8 := L.set (i / 8) (L.getD (i / 8) 0 ^^^ mask i)
theorem turn_length (L : List UInt8) (i : Nat) : (turn L i).length = L.length := by simp [turn]

theorem fine_mem (b : UInt8) (h : fineB (b.toNat : Nat) = true) : b ∈ ([0, 1, 4, 10] : List UInt8) := by
  have e : ∀ k : UInt8, ((b.toNat : Nat) : Int) = (k.toNat : Nat) → b = k := fun k h => UInt8.toNat_inj.1 (by omega)
  simp only [fineB, Bool.or_eq_true, beq_iff_eq] at h
  simp only [List.mem_cons, List.not_mem_nil, or_false]
  rcases h with ((h | h) | h) | h
  · exact .inl (e 0 h)
  · exact .inr (.inl (e 1 h))
  · exact .inr (.inr (.inl (e 4 h)))
  · exact .inr (.inr (.inr (e 10 h)))

set_option maxRecDepth 100000 in
theorem head_turn_all : ∀ b ∈ ([0, 1, 4, 10] : List UInt8), readHeadR (headL b) = (((b.toNat : Nat) : Int), 0) ∧ ∀ i < 96, (readHeadR (turn (headL b) i)).2 ≠ 0 := by decide +kernel
theorem head_back (b : UInt8) (h : fineB (b.toNat : Nat) = true) : readHeadR (headL b) = (((b.toNat : Nat) : Int), 0) := (head_turn_all b (fine_mem b h)).1
theorem head_turned (b : UInt8) (h : fineB (b.toNat : Nat) = true) (i : Nat) (hi : i < 96) : (readHeadR (turn (headL b) i)).2 ≠ 0 := (head_turn_all b (fine_mem b h)).2 i hi

theorem mask_ne (i : Nat) : mask i ≠ 0 := by
  have h : ∀ j < 8, UInt8.ofNat (2 ^ j) ≠ 0 := by decide +kernel
  exact h _ (Nat.mod_lt _ (by omega))
theorem xor_ne (x m : UInt8) (h : m ≠ 0) : x ^^^ m ≠ x := fun e => h (by
  have := congrArg (x ^^^ ·) e
  simpa [← UInt8.xor_assoc] using this)
theorem set_ne (L : List UInt8) (k : Nat) (m : UInt8) (hk : k < L.length) (h : m ≠ 0) : L.set k (L.getD k 0 ^^^ m) ≠ L := fun e => by
  have h1 := congrArg (fun l : List UInt8 => l.getD k 0) e
  simp [List.getD, hk] at h1
  exact xor_ne _ m h h1

theorem ext_xor1 (a b : UInt8) : Crc.ext 32 (a ^^^ b) = Crc.ext 32 a ^^^ Crc.ext 32 b := by
  unfold Crc.ext; rw [UInt8.toBitVec_xor, BitVec.setWidth_xor]
theorem eat_xor1 (x y : BitVec 32) (u v : UInt8) : Crc.eat C3.P32 (x ^^^ y) (u ^^^ v) = Crc.eat C3.P32 x u ^^^ Crc.eat C3.P32 y v := by
  unfold Crc.eat
  rw [ext_xor1, ← Crc.sn_xor]; congr 1; ac_rfl
theorem eats_cons1 (x : BitVec 32) (u : UInt8) (L : List UInt8) : Crc.eats C3.P32 x (u :: L) = Crc.eats C3.P32 (Crc.eat C3.P32 x u) L := rfl
theorem eats_zeros1 (L : List UInt8) : ∀ x y : BitVec 32, Crc.eats C3.P32 (x ^^^ y) L = Crc.eats C3.P32 x L ^^^ Crc.eats C3.P32 y (List.replicate L.length 0) := by
  induction L with
  | nil => intro x y; rfl
  | cons u L ih =>
    intro x y
    have e := eat_xor1 x y u 0
    rw [UInt8.xor_zero] at e
    rw [List.length_cons, List.replicate_succ, eats_cons1, eats_cons1, eats_cons1, e, ih]
theorem eats_turn1 (L : List UInt8) : ∀ (x y : BitVec 32) (k : Nat) (m : UInt8), k < L.length →
    Crc.eats C3.P32 (x ^^^ y) (L.set k (L.getD k 0 ^^^ m)) = Crc.eats C3.P32 x L ^^^ Crc.eats C3.P32 y ((List.replicate L.length 0).set k m) := by
  induction L with
  | nil => intro x y k m hk; simp at hk
  | cons u L ih =>
    intro x y k m hk
    cases k with
    | zero =>
      rw [List.length_cons, List.replicate_succ, List.set_cons_zero, List.set_cons_zero, eats_cons1, eats_cons1, eats_cons1]
      have e : (u :: L).getD 0 0 = u := rfl
      rw [e, eat_xor1, eats_zeros1]
    | succ k =>
      have e := eat_xor1 x y u 0
      rw [UInt8.xor_zero] at e
      have e2 : (u :: L).getD (k + 1) 0 = L.getD k 0 := by simp [List.getD]
      rw [List.length_cons, List.replicate_succ, List.set_cons_succ, List.set_cons_succ, eats_cons1, eats_cons1, eats_cons1, e, e2]
      exact ih _ _ k m (by simpa using hk)
set_option maxRecDepth 100000 in
theorem eats_one_all : ∀ k < 6, ∀ j < 8, Crc.eats C3.P32 0#32 ((List.replicate 6 0).set k (UInt8.ofNat (2 ^ j))) ≠ 0#32 := by decide +kernel

theorem numB_lowB (n : Nat) : ∀ v, numB (lowB v n) = v % 256 ^ n := by
  induction n with
  | zero => intro v; simp [lowB, numB]; omega
  | succ n ih =>
    intro v
    simp only [lowB, numB, ih, UInt8.toNat_ofNat']
    rw [show 256 ^ (n + 1) = 256 * 256 ^ n from by rw [Nat.pow_succ, Nat.mul_comm], Nat.mod_mul]; omega
theorem sum1_inj (l m : List UInt8) (h : sumB 1 l = sumB 1 m) : Crc.eats C3.P32 (~~~ 0#32) l = Crc.eats C3.P32 (~~~ 0#32) m := by
  have e := congrArg numB h
  rw [show sumB 1 l = lowB (C3.crcOf 0#32 l).toNat 4 from rfl, show sumB 1 m = lowB (C3.crcOf 0#32 m).toNat 4 from rfl, numB_lowB, numB_lowB] at e
  have h1 := (C3.crcOf 0#32 l).isLt
  have h2 := (C3.crcOf 0#32 m).isLt
  have e3 : C3.crcOf 0#32 l = C3.crcOf 0#32 m := BitVec.eq_of_toNat_eq (by omega)
  unfold C3.crcOf at e3
  have e4 := congrArg (~~~ ·) e3
  simpa using e4
theorem sum1_turn (L : List UInt8) (h6 : L.length = 6) (k i : Nat) (hk : k < 6) : sumB 1 (L.set k (L.getD k 0 ^^^ mask i)) ≠ sumB 1 L := fun e => by
  have e1 := sum1_inj _ _ e
  have e2 := eats_turn1 L (~~~ 0#32) 0#32 k (mask i) (by omega)
  rw [BitVec.xor_zero, h6, e1] at e2
  have e3 : Crc.eats C3.P32 0#32 ((List.replicate 6 0).set k (mask i)) = 0#32 := by
    have := congrArg (Crc.eats C3.P32 (~~~ 0#32) L ^^^ ·) e2
    simpa [← BitVec.xor_assoc] using this.symm
  exact eats_one_all k hk (i % 8) (Nat.mod_lt _ (by omega)) e3

theorem part_first (S B M : List UInt8) (n : Nat) (h : S.length = n) : part (S ++ B ++ M) 0 n = S := by
  unfold part; rw [List.drop_zero, List.append_assoc, List.take_append_of_le_length (by omega), ← h, List.take_length]
theorem part_mid (S B M : List UInt8) (a n : Nat) (hS : S.length = a) (hB : B.length = n) : part (S ++ B ++ M) a n = B := by
  unfold part; subst hS; subst hB; rw [List.append_assoc, List.drop_left, List.take_left]
theorem part_last (S B M : List UInt8) (a n : Nat) (hS : S.length + B.length = a) (hM : M.length = n) : part (S ++ B ++ M) a n = M := by
  unfold part; subst hM; rw [← hS, ← List.length_append, List.drop_left, List.take_length]
theorem readFoot_zero (S B M : List UInt8) (hS : S.length = 4) (hB : B.length = 6) (hM : M.length = 2) (h : (readFootR (S ++ B ++ M)).2.2 = 0) : M = [89, 90] ∧ S = sumB 1 B := by
  unfold readFootR at h
  rw [if_neg (by simp; omega), part_last S B M 10 2 (by omega) hM] at h
  by_cases h1 : (M == [89, 90]) = false
  · rw [if_pos h1] at h; cases h
  rw [if_neg h1, part_first S B M 4 hS, part_mid S B M 4 6 hS hB] at h
  by_cases h2 : (S == sumB 1 B) = false
  · rw [if_pos h2] at h; cases h
  · exact ⟨by simpa using h1, by simpa using h2⟩
theorem foot_turned (b : UInt8) (n i : Nat) (hi : i < 96) : (readFootR (turn (footL b n) i)).2.2 ≠ 0 := fun h => by
  have hB := bodyL_length b n
  have hS := sum1_length (bodyL b n)
  unfold turn footL at h
  by_cases h4 : i / 8 < 4
  · have e : (sumB 1 (bodyL b n) ++ bodyL b n ++ [89, 90]).getD (i / 8) 0 = (sumB 1 (bodyL b n)).getD (i / 8) 0 := by
      simp [List.getD, List.getElem?_append, hS, h4]
    rw [e, List.set_append_left _ _ (by simp; omega), List.set_append_left _ _ (by omega)] at h
    have := (readFoot_zero _ _ _ (by simp; omega) hB rfl h).2
    exact set_ne _ _ _ (by omega) (mask_ne i) this
  by_cases h10 : i / 8 < 10
  · have e : (sumB 1 (bodyL b n) ++ bodyL b n ++ [89, 90]).getD (i / 8) 0 = (bodyL b n).getD (i / 8 - 4) 0 := by
      simp [List.getD, List.getElem?_append, hS, h4, show i / 8 - 4 < 6 by omega, hB]
    rw [e, List.set_append_left _ _ (by simp; omega), List.set_append_right _ _ (by omega), hS] at h
    have := (readFoot_zero _ _ _ hS (by simp; omega) rfl h).2
    exact sum1_turn (bodyL b n) hB (i / 8 - 4) i (by omega) this.symm
  · have e : (sumB 1 (bodyL b n) ++ bodyL b n ++ [89, 90]).getD (i / 8) 0 = ([89, 90] : List UInt8).getD (i / 8 - 10) 0 := by
      simp only [List.getD, List.getElem?_append, List.length_append, hS, hB]
      rw [if_neg (by omega)]
    rw [e, List.set_append_right _ _ (by simp; omega), List.length_append, hS, hB] at h
    have := (readFoot_zero _ _ _ hS hB (by simp) h).1
    exact set_ne [89, 90] (i / 8 - 10) (mask i) (by simp; omega) (mask_ne i) this

theorem foot_back (b : UInt8) (n : Nat) (hn : n < 4294967296) (h : fineB (b.toNat : Nat) = true) : readFootR (footL b n) = (((b.toNat : Nat) : Int), 4 * (n : Int) + 4, 0) := by
  have hB := bodyL_length b n
  have hS := sum1_length (bodyL b n)
  have hl := lowB_length 4 n
  have e8 : (footL b n).getD 8 0 = 0 := by
    simp [footL, bodyL, List.getD, sum1_length, hl]
  have e9 : (footL b n).getD 9 0 = b := by
    simp [footL, bodyL, List.getD, sum1_length, hl]
  have e44 : part (footL b n) 4 4 = lowB n 4 := by
    have : footL b n = sumB 1 (bodyL b n) ++ lowB n 4 ++ ([0, b] ++ [89, 90]) := by simp [footL, bodyL]
    rw [this, part_mid _ _ _ 4 4 hS hl]
  have hf : flagsR 0 b = (((b.toNat : Nat) : Int), 0) := by unfold flagsR; rw [if_pos ⟨rfl, h⟩]
  unfold readFootR
  rw [if_neg (by rw [footL_length]; omega), e8, e9, e44, hf, numB_lowB]
  unfold footL
  rw [part_last _ _ _ 10 2 (by omega) rfl, part_first _ _ _ 4 hS, part_mid _ _ _ 4 6 hS hB]
  rw [if_neg (by simp), if_neg (by simp), if_neg (by simp)]
  have : (n : Nat) % 256 ^ 4 = n := Nat.mod_eq_of_lt (by omega)
  rw [this]
end Go.Proofs.YtibkhajhmncgkaaDoor
