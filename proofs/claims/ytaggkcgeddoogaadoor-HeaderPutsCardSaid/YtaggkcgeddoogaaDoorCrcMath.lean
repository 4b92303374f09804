/- Plain mathematics of a reflected CRC of any width: one shift of the register, n shifts, that they are linear and one to one, and what a byte's table entry does. -/
import Derived.Laws.BitsAllLaws
namespace Go.Proofs.YtaggkcgeddoogaaDoor.Crc

/-- One shift of the register. -/
def s1 {n : Nat} (p x : BitVec n) : BitVec n := (x >>> 1) ^^^ (if x.getLsbD 0 then p else 0#n)

/-- k shifts. -/
def sn {n : Nat} (p : BitVec n) : Nat → BitVec n → BitVec n
  | 0, x => x
  | k + 1, x => sn p k (s1 p x)

theorem sn_add {n : Nat} (p : BitVec n) (j k : Nat) (x : BitVec n) : sn p (j + k) x = sn p k (sn p j x) := by
  induction j generalizing x with
  | zero => simp [sn]
  | succ j ih => rw [Nat.succ_add]; simp only [sn]; exact ih _

theorem sn_succ' {n : Nat} (p : BitVec n) (k : Nat) (x : BitVec n) : sn p (k + 1) x = s1 p (sn p k x) := by
  rw [sn_add]; rfl

theorem s1_xor {n : Nat} (p x y : BitVec n) : s1 p (x ^^^ y) = s1 p x ^^^ s1 p y := by
  unfold s1
  apply BitVec.eq_of_getLsbD_eq
  intro i hi
  cases hx : x.getLsbD 0 <;> cases hy : y.getLsbD 0 <;> simp [hx, hy] <;> (first | done | (cases x.getLsbD (1 + i) <;> cases y.getLsbD (1 + i) <;> cases p.getLsbD i <;> rfl))

theorem sn_xor {n : Nat} (p : BitVec n) (k : Nat) (x y : BitVec n) : sn p k (x ^^^ y) = sn p k x ^^^ sn p k y := by
  induction k generalizing x y with
  | zero => rfl
  | succ k ih => simp only [sn]; rw [s1_xor, ih]

theorem sn_zero {n : Nat} (p : BitVec n) (k : Nat) : sn p k 0#n = 0#n := by
  induction k with
  | zero => rfl
  | succ k ih =>
    have h : s1 p 0#n = 0#n := by
      unfold s1; simp
    simp only [sn]; rw [h]; exact ih

/-- Bits that are all at place k or above are merely shifted by k shifts. -/
theorem sn_high {n : Nat} (p : BitVec n) (k : Nat) (x : BitVec n) (h : ∀ i, i < k → x.getLsbD i = false) : sn p k x = x >>> k := by
  induction k generalizing x with
  | zero => simp [sn]
  | succ k ih =>
    have h0 := h 0 (by omega)
    have h1 : s1 p x = x >>> 1 := by
      unfold s1; simp [h0]
    simp only [sn]
    rw [h1, ih (x >>> 1) (by intro i hi; simp only [BitVec.getLsbD_ushiftRight]; exact h _ (by omega))]
    rw [Nat.add_comm k 1, BitVec.shiftRight_add]

/-- The low byte of a register, as a register. -/
def low {n : Nat} (x : BitVec n) : BitVec n := (x.setWidth 8).setWidth n

theorem low_bit {n : Nat} (x : BitVec n) (i : Nat) : (low x).getLsbD i = (decide (i < 8) && x.getLsbD i) := by
  unfold low
  rw [BitVec.getLsbD_setWidth, BitVec.getLsbD_setWidth]
  by_cases h : i < n
  · simp [h]
  · simp [h, BitVec.getLsbD_of_ge _ _ (Nat.le_of_not_lt h)]

/-- Eight shifts: the register without its low byte, and the low byte's own entry. -/
theorem sn_byte {n : Nat} (p x : BitVec n) : sn p 8 x = (x >>> 8) ^^^ sn p 8 (low x) := by
  have e : x = (x ^^^ low x) ^^^ low x := by
    rw [BitVec.xor_assoc, BitVec.xor_self, BitVec.xor_zero]
  have h : sn p 8 (x ^^^ low x) = (x ^^^ low x) >>> 8 := sn_high p 8 _ (by
    intro i hi
    rw [BitVec.getLsbD_xor, low_bit]
    simp [hi])
  have h2 : (x ^^^ low x) >>> 8 = x >>> 8 := by
    apply BitVec.eq_of_getLsbD_eq
    intro i hi
    simp only [BitVec.getLsbD_ushiftRight, BitVec.getLsbD_xor, low_bit]
    simp [show ¬ 8 + i < 8 by omega]
  conv => lhs; rw [e]
  rw [sn_xor, h, h2]

/-- A byte as a register. -/
def ext (n : Nat) (b : UInt8) : BitVec n := b.toBitVec.setWidth n

/-- What one byte does to the register, and what bytes do, one after the other. -/
def eat {n : Nat} (p : BitVec n) (x : BitVec n) (b : UInt8) : BitVec n := sn p 8 (x ^^^ ext n b)
def eats {n : Nat} (p : BitVec n) (x : BitVec n) (l : List UInt8) : BitVec n := l.foldl (eat p) x

theorem eats_append {n : Nat} (p x : BitVec n) (a b : List UInt8) : eats p x (a ++ b) = eats p (eats p x a) b := by
  unfold eats; rw [List.foldl_append]

theorem ext_bit (n : Nat) (b : UInt8) (i : Nat) (hi : 8 ≤ i) : (ext n b).getLsbD i = false := by
  unfold ext
  rw [BitVec.getLsbD_setWidth, BitVec.getLsbD_of_ge _ _ hi]; simp

/-- One to one. -/
theorem s1_inj {n : Nat} (p : BitVec n) (hp : p.getLsbD (n - 1) = true) (x : BitVec n) (h : s1 p x = 0#n) : x = 0#n := by
  cases h0 : x.getLsbD 0 with
  | true =>
    have ht := congrArg (fun v => BitVec.getLsbD v (n - 1)) h
    simp only [s1, h0, if_true, BitVec.getLsbD_xor, BitVec.getLsbD_ushiftRight, hp] at ht
    rw [BitVec.getLsbD_of_ge _ _ (by omega)] at ht
    simp at ht
  | false =>
    apply BitVec.eq_of_getLsbD_eq
    intro i hi
    cases i with
    | zero => simpa using h0
    | succ i =>
      have ht := congrArg (fun v => BitVec.getLsbD v i) h
      simp only [s1, h0] at ht
      simpa [Nat.add_comm] using ht

theorem sn_inj {n : Nat} (p : BitVec n) (hp : p.getLsbD (n - 1) = true) (k : Nat) (x : BitVec n) (h : sn p k x = 0#n) : x = 0#n := by
  induction k generalizing x with
  | zero => exact h
  | succ k ih => exact s1_inj p hp x (ih _ h)

end Go.Proofs.YtaggkcgeddoogaaDoor.Crc
