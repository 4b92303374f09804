/- The walks over the reference's coder. -/
import Derived.Test.YteiglcgkhcmkeaaRcBytes
namespace Go.Proofs.Yteiglcgkhcmkeaa
open Go.RowKit

/-- The reference's coder in memory: its struct in block h, its bytes in block o. -/
structure RefAt (w : World) (h o cap : Nat) (s : Rc.St) : Prop where
  blk : w.heap[h]? = some (.cells #[.slice (some ⟨o, 0, none⟩) (4 + s.k) cap, .int .u64 ((s.r : Nat) : Int)] 46 (0, 0))
  own : w.ownsRow 0 5 1 (.slice (some ⟨o, 0, none⟩) (4 + s.k) cap) (4 + s.k) ((Rc.be (4 + s.k) s.v).map B8)
  ne : h ≠ o

set_option maxHeartbeats 400000 in
theorem fair_any (c : BitVec 16) (w : World) : Calls Try.prog 18 #[.int .u16 c.toNat] w fun e w' => e = .returned (.int .u64 (Rc.fair c.toNat : Nat)) ∧ w = w' := by
  have hc := c.isLt
  by_cases h1 : c.toNat = 0
  · have hf : Rc.fair c.toNat = 1024 := by unfold Rc.fair; rw [if_pos (.inl (by omega))]
    rw [hf, h1]
    go_enter Try.func18, Try.ntmps18
    go_wp2_with fail
    go_ret
    exact ⟨rfl, rfl⟩
  · have h1' : ((c.toNat : Int) == 0) = false := beq_eq_false_iff_ne.2 (by omega)
    by_cases h2 : 2048 ≤ c.toNat
    · have hf : Rc.fair c.toNat = 1024 := by unfold Rc.fair; rw [if_pos (.inr h2)]
      rw [hf]
      have h2' : (2047 : Int) < c.toNat := by omega
      go_enter Try.func18, Try.ntmps18
      go_wp2_with fail
      go_ret
      exact ⟨rfl, rfl⟩
    · have hf : Rc.fair c.toNat = c.toNat := by unfold Rc.fair; rw [if_neg (by omega)]
      rw [hf]
      have h2' : ¬ (2047 : Int) < c.toNat := by omega
      go_enter Try.func18, Try.ntmps18
      go_wp2_with fail
      go_ret
      exact ⟨rfl, rfl⟩

set_option maxHeartbeats 400000 in
theorem rnext_any (p : Nat) (one : Bool) (w : World) (h1 : 1 ≤ p) (h2 : p ≤ 2047) : Calls Try.prog 21 #[.int .u64 p, .int .i64 (bitI one)] w fun e w' => e = .returned (.int .u16 (Rc.next p one : Nat)) ∧ w = w' := by
  cases one
  · have hn : ((Rc.next p false : Nat) : Int) = (p : Int) + (2048 - (p : Int)) / 32 := by simp only [Rc.next, Bool.false_eq_true, if_false]; omega
    have HN := Lib.hid hn
    clear hn
    unfold bitI
    simp only [Bool.false_eq_true, if_false]
    go_enter Try.func21, Try.ntmps21
    go_wp2_with fail
    go_ret
    exact ⟨congrArg (fun n : Int => Ending.returned (Value.int .u16 n)) HN.out.symm, rfl⟩
  · have hn : ((Rc.next p true : Nat) : Int) = (p : Int) - (p : Int) / 32 := by simp only [Rc.next, if_true]; omega
    have HN := Lib.hid hn
    clear hn
    unfold bitI
    simp only [if_true]
    go_enter Try.func21, Try.ntmps21
    go_wp2_with fail
    go_ret
    exact ⟨congrArg (fun n : Int => Ending.returned (Value.int .u16 n)) HN.out.symm, rfl⟩

theorem blk2_set0 {w : World} {g : Nat} {a b : Value} {t : TypeId} (h : w.heap[g]? = some (.cells #[a, b] t (0, 0))) (u : Value) : (w.setCell ⟨g, 0, none⟩ u).heap[g]? = some (.cells #[u, b] t (0, 0)) := by
  rw [heap_setCell_same w g 0 _ t u h]; rfl
theorem blk2_set1 {w : World} {g : Nat} {a b : Value} {t : TypeId} (h : w.heap[g]? = some (.cells #[a, b] t (0, 0))) (u : Value) : (w.setCell ⟨g, 1, none⟩ u).heap[g]? = some (.cells #[a, u] t (0, 0)) := by
  rw [heap_setCell_same w g 1 _ t u h]; rfl
theorem cell20_of {w : World} {g : Nat} {a b : Value} {t : TypeId} {fr : Nat × Nat} (h : w.heap[g]? = some (.cells #[a, b] t fr)) : w.cell? ⟨g, 0, none⟩ = some a := by rw [cell_of_row _ _ _ _ _ _ h]; rfl
theorem cell21_of {w : World} {g : Nat} {a b : Value} {t : TypeId} {fr : Nat × Nat} (h : w.heap[g]? = some (.cells #[a, b] t fr)) : w.cell? ⟨g, 1, none⟩ = some b := by rw [cell_of_row _ _ _ _ _ _ h]; rfl

/-- What an operation of the reference's comes to: the state, its bytes in the old block or a new one. -/
def RefDone (w : World) (h o : Nat) (t : Rc.St) (w' : World) : Prop := ∃ o' cap', RefAt w' h o' cap' t ∧ Only [h] w w' ∧ (o' = o ∨ w.heap.size ≤ o')

/-- The carry behind t bytes. -/
def carry (v n t : Nat) : Nat := (v + n) / 256 ^ t - v / 256 ^ t
theorem carry_zero (v n : Nat) : carry v n 0 = n := by simp [carry]
theorem carry_le (v n t : Nat) : carry v n t ≤ n := by
  unfold carry
  have hp : 0 < 256 ^ t := Nat.pos_of_ne_zero (by simp)
  have h : (v + n) / 256 ^ t ≤ v / 256 ^ t + n := by
    rw [Nat.div_le_iff_le_mul hp]
    have := Nat.div_add_mod v (256 ^ t)
    have h2 := Nat.mod_lt v hp
    have h3 : n * 1 ≤ n * 256 ^ t := Nat.mul_le_mul_left _ hp
    rw [Nat.add_mul, Nat.mul_comm (v / 256 ^ t)]; omega
  omega
theorem carry_split (v n t : Nat) : v / 256 ^ t + carry v n t = (v + n) / 256 ^ t := by
  unfold carry
  have : v / 256 ^ t ≤ (v + n) / 256 ^ t := Nat.div_le_div_right (by omega)
  omega
theorem carry_byte (v n t : Nat) : (carry v n t + v / 256 ^ t % 256) % 256 = (v + n) / 256 ^ t % 256 := by
  rw [← carry_split v n t]; omega
theorem carry_next (v n t : Nat) : (carry v n t + v / 256 ^ t % 256) / 256 = carry v n (t + 1) := by
  have h1 := carry_split v n t
  have h2 : (v + n) / 256 ^ (t + 1) = (v + n) / 256 ^ t / 256 := by rw [Nat.pow_succ, ← Nat.div_div_eq_div_mul]
  have h3 : v / 256 ^ (t + 1) = v / 256 ^ t / 256 := by rw [Nat.pow_succ, ← Nat.div_div_eq_div_mul]
  unfold carry at *
  rw [h2, h3]; omega
/-- The bytes while n is added, t of them done. -/
def summed (m t v n : Nat) : List UInt8 := Rc.be (m - t) (v / 256 ^ t) ++ Rc.be t (v + n)
theorem summed_zero (m v n : Nat) : summed m 0 v n = Rc.be m v := by simp [summed, Rc.be]
theorem summed_end (m v n : Nat) : summed m m v n = Rc.be m (v + n) := by simp [summed, Rc.be]
theorem summed_get (m t v n : Nat) (h : t < m) : (summed m t v n)[m - 1 - t]? = some (UInt8.ofNat (v / 256 ^ t % 256)) := by
  unfold summed
  obtain ⟨j, hj⟩ : ∃ j, m - t = j + 1 := ⟨m - t - 1, by omega⟩
  rw [hj, Rc.be, List.append_assoc, List.getElem?_append_right (by rw [Rc.be_length]; omega), Rc.be_length, show m - 1 - t - j = 0 by omega]; rfl
theorem summed_set (m t v n : Nat) (h : t < m) : (summed m t v n).set (m - 1 - t) (UInt8.ofNat ((v + n) / 256 ^ t % 256)) = summed m (t + 1) v n := by
  unfold summed
  obtain ⟨j, hj⟩ : ∃ j, m - t = j + 1 := ⟨m - t - 1, by omega⟩
  rw [hj, Rc.be, List.append_assoc, List.set_append_right _ _ (by rw [Rc.be_length]; omega), Rc.be_length, show m - 1 - t - j = 0 by omega, show m - (t + 1) = j by omega, Nat.div_div_eq_div_mul, ← Nat.pow_succ]
  congr 1
  have e : Rc.be (t + 1) (v + n) = Rc.be (1 + t) (v + n) := by rw [Nat.add_comm]
  rw [e, Rc.be_add]
  rfl
end Go.Proofs.Yteiglcgkhcmkeaa
