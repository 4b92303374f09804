/- The places before one with the same four bytes, the nearest first; the places of a pair, in order. -/
import Derived.Test.YtnglkipjiojipaaFdFours
import Derived.Test.YtnglkipjiojipaaFdScan
namespace Go.Proofs.Ytnglkipjiojipaa

def chain (d : List UInt8) (x : UInt8 × UInt8 × UInt8 × UInt8) : Nat → List Nat
  | 0 => []
  | n + 1 => if four d n = x then n :: chain d x n else chain d x n
theorem chain_succ (d : List UInt8) (x : UInt8 × UInt8 × UInt8 × UInt8) (n : Nat) : chain d x (n + 1) = if four d n = x then n :: chain d x n else chain d x n := rfl
theorem chain_none {d : List UInt8} {x : UInt8 × UInt8 × UInt8 × UInt8} : ∀ {n}, lastAt d x n < 0 → chain d x n = []
  | 0, _ => rfl
  | n + 1, h => by
    unfold lastAt at h
    rw [chain_succ]
    split at h
    · omega
    · rename_i hx
      rw [if_neg hx]; exact chain_none h
theorem chain_some {d : List UInt8} {x : UInt8 × UInt8 × UInt8 × UInt8} {j : Nat} : ∀ {n}, lastAt d x n = (j : Int) → chain d x n = j :: chain d x j ∧ j < n ∧ four d j = x
  | 0, h => by simp [lastAt] at h
  | n + 1, h => by
    unfold lastAt at h
    rw [chain_succ]
    split at h
    · rename_i hx
      obtain rfl : n = j := by omega
      rw [if_pos hx]
      exact ⟨rfl, by omega, hx⟩
    · rename_i hx
      rw [if_neg hx]
      obtain ⟨h1, h2, h3⟩ := chain_some h
      exact ⟨h1, by omega, h3⟩
theorem mem_chain {d : List UInt8} {x : UInt8 × UInt8 × UInt8 × UInt8} {j : Nat} : ∀ {n}, j ∈ chain d x n ↔ j < n ∧ four d j = x
  | 0 => by simp [chain]
  | n + 1 => by
    rw [chain_succ]
    split
    · rename_i hx
      rw [List.mem_cons, mem_chain]
      constructor
      · rintro (rfl | ⟨h1, h2⟩)
        · exact ⟨by omega, hx⟩
        · exact ⟨by omega, h2⟩
      · rintro ⟨h1, h2⟩
        rcases Nat.lt_or_ge j n with h | h
        · exact .inr ⟨h, h2⟩
        · exact .inl (by omega)
    · rename_i hx
      rw [mem_chain]
      constructor
      · rintro ⟨h1, h2⟩
        exact ⟨by omega, h2⟩
      · rintro ⟨h1, h2⟩
        rcases Nat.lt_or_ge j n with h | h
        · exact ⟨h, h2⟩
        · obtain rfl : j = n := by omega
          exact absurd h2 hx
theorem chain_falls (d : List UInt8) (x : UInt8 × UInt8 × UInt8 × UInt8) : ∀ n, (chain d x n).Pairwise (· > ·)
  | 0 => List.Pairwise.nil
  | n + 1 => by
    rw [chain_succ]
    split
    · exact List.pairwise_cons.2 ⟨fun j hj => (mem_chain.1 hj).1, chain_falls d x n⟩
    · exact chain_falls d x n
/-- Four bytes are alike just where the four are. -/
theorem four_of_len {d : List UInt8} {p q L : Nat} (h : 4 ≤ eqLen d p q L) : four d q = four d p := by
  have hi := (isLen_eqLen d L p q).eq
  have h0 := hi 0 (by omega)
  have h1 := hi 1 (by omega)
  have h2 := hi 2 (by omega)
  have h3 := hi 3 (by omega)
  simp only [Nat.add_zero] at h0
  unfold four
  rw [h0, h1, h2, h3]
theorem pair_of_len {d : List UInt8} {p q L : Nat} (h : 2 ≤ eqLen d p q L) : d.getD q 0 = d.getD p 0 ∧ d.getD (q + 1) 0 = d.getD (p + 1) 0 := by
  have hi := (isLen_eqLen d L p q).eq
  have h0 := hi 0 (by omega)
  have h1 := hi 1 (by omega)
  simp only [Nat.add_zero] at h0
  exact ⟨h0.symm, h1.symm⟩
/-- The places of a pair below n, in order. -/
def places (d : List UInt8) (a b : UInt8) (n : Nat) : List Nat := (List.range n).filter fun i => d.getD i 0 == a && d.getD (i + 1) 0 == b
theorem places_succ (d : List UInt8) (a b : UInt8) (n : Nat) : places d a b (n + 1) = places d a b n ++ (if d.getD n 0 = a ∧ d.getD (n + 1) 0 = b then [n] else []) := by
  unfold places
  rw [List.range_succ, List.filter_append]
  congr 1
  by_cases h : d.getD n 0 = a ∧ d.getD (n + 1) 0 = b
  · have e : (d.getD n 0 == a && d.getD (n + 1) 0 == b) = true := by rw [h.1, h.2]; simp
    rw [if_pos h]
    simp only [List.filter_cons, List.filter_nil, e, if_true]
  · rw [if_neg h]
    simp only [List.filter_cons, List.filter_nil]
    rw [if_neg]
    intro h2
    simp at h2
    exact h (by simpa using h2)
theorem mem_places {d : List UInt8} {a b : UInt8} {n i : Nat} : i ∈ places d a b n ↔ i < n ∧ d.getD i 0 = a ∧ d.getD (i + 1) 0 = b := by
  unfold places
  rw [List.mem_filter, List.mem_range]
  simp only [Bool.and_eq_true, beq_iff_eq]
theorem places_rise (d : List UInt8) (a b : UInt8) (n : Nat) : (places d a b n).Pairwise (· < ·) := List.Pairwise.filter _ (List.pairwise_lt_range)
end Go.Proofs.Ytnglkipjiojipaa
