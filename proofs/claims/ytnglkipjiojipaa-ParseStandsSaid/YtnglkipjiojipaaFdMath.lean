/- How long bytes are alike. -/
import Derived.Test.YtnglkipjiojipaaVals
namespace Go.Proofs.Ytnglkipjiojipaa

/-- How long the bytes from p on are like those from q on, at most L. -/
def eqLen (d : List UInt8) : Nat → Nat → Nat → Nat
  | _, _, 0 => 0
  | p, q, L + 1 => if d.getD p 0 = d.getD q 0 then eqLen d (p + 1) (q + 1) L + 1 else 0
structure IsLen (d : List UInt8) (p q L n : Nat) : Prop where
  le : n ≤ L
  eq : ∀ i, i < n → d.getD (p + i) 0 = d.getD (q + i) 0
  stop : n = L ∨ d.getD (p + n) 0 ≠ d.getD (q + n) 0
theorem IsLen.unique {d : List UInt8} {p q L n m : Nat} (h : IsLen d p q L n) (k : IsLen d p q L m) : n = m := by
  rcases Nat.lt_trichotomy n m with hlt | e | hlt
  · rcases h.stop with e | e
    · have := k.le; omega
    · exact absurd (k.eq n hlt) e
  · exact e
  · rcases k.stop with e | e
    · have := h.le; omega
    · exact absurd (h.eq m hlt) e
theorem isLen_eqLen (d : List UInt8) : ∀ (L p q : Nat), IsLen d p q L (eqLen d p q L)
  | 0, p, q => ⟨Nat.le_refl _, (fun i h => absurd h (Nat.not_lt_zero i)), .inl rfl⟩
  | L + 1, p, q => by
    unfold eqLen
    by_cases h : d.getD p 0 = d.getD q 0
    · rw [if_pos h]
      have ih := isLen_eqLen d L (p + 1) (q + 1)
      refine ⟨by have := ih.le; omega, fun i hi => ?_, ?_⟩
      · cases i with
        | zero => exact h
        | succ i =>
          have := ih.eq i (by omega)
          rw [show p + 1 + i = p + (i + 1) by omega, show q + 1 + i = q + (i + 1) by omega] at this
          exact this
      · rcases ih.stop with e | e
        · exact .inl (by omega)
        · rw [show p + 1 + eqLen d (p + 1) (q + 1) L = p + (eqLen d (p + 1) (q + 1) L + 1) by omega, show q + 1 + eqLen d (p + 1) (q + 1) L = q + (eqLen d (p + 1) (q + 1) L + 1) by omega] at e
          exact .inr e
    · rw [if_neg h]
      exact ⟨Nat.zero_le _, (fun i hi => absurd hi (Nat.not_lt_zero i)), .inr h⟩
theorem IsLen.is {d : List UInt8} {p q L n : Nat} (h : IsLen d p q L n) : n = eqLen d p q L := h.unique (isLen_eqLen d L p q)
/-- What may be looked at: at most `most`, at most to the end. -/
def lim (d : List UInt8) (p : Nat) (most : Int) : Nat := (min most ((d.length : Int) - (p : Int))).toNat
theorem lim_le (d : List UInt8) (p : Nat) (most : Int) (h : p ≤ d.length) : p + lim d p most ≤ d.length := by
  unfold lim; omega
theorem lim_lt {d : List UInt8} {p n : Nat} {most : Int} : n < lim d p most ↔ (n : Int) < most ∧ (p : Int) + (n : Int) < (d.length : Int) := by
  unfold lim; omega
end Go.Proofs.Ytnglkipjiojipaa
