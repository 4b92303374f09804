/- The best of all distances: the mathematics. -/
import Derived.Test.YtnglkipjiojipaaFdMath
namespace Go.Proofs.Ytnglkipjiojipaa
open Go.RowKit

theorem getD_of {d : List UInt8} {i : Nat} (h : i < d.length) : d.getD i 0 = d[i] := by simp [List.getD, h]
/-- The best of the distances 1 to D: the first of the greatest. -/
def bestTo (f : Nat → Nat) : Nat → Nat × Nat
  | 0 => (0, 0)
  | D + 1 => if (bestTo f D).1 < f (D + 1) then (f (D + 1), D + 1) else bestTo f D
/-- What P9.1 says of a place that there is. -/
def bestOf (l : List UInt8) (dict nice : Int) (p : Nat) (most : Int) : Nat × Nat :=
  if (bestTo (fun k => eqLen l p (p - k) (lim l p (min nice most))) (min (p : Int) dict).toNat).1 < 2 then (0, 0) else bestTo (fun k => eqLen l p (p - k) (lim l p (min nice most))) (min (p : Int) dict).toNat
/-- The best of all distances, told without an order: the greatest length, the least distance that has it. -/
structure BestIs (f : Nat → Nat) (D n k : Nat) : Prop where
  le : ∀ j, 1 ≤ j → j ≤ D → f j ≤ n
  lt : ∀ j, 1 ≤ j → j < k → f j < n
  at_ : (n = 0 ∧ k = 0) ∨ (1 ≤ k ∧ k ≤ D ∧ f k = n ∧ 0 < n)
theorem bestTo_is (f : Nat → Nat) : ∀ D, BestIs f D (bestTo f D).1 (bestTo f D).2
  | 0 => ⟨fun j h1 h2 => by omega, fun j h1 h2 => by simp [bestTo] at h2, .inl ⟨rfl, rfl⟩⟩
  | D + 1 => by
    have ih := bestTo_is f D
    unfold bestTo
    by_cases h : (bestTo f D).1 < f (D + 1)
    · rw [if_pos h]
      refine ⟨fun j h1 h2 => ?_, fun j h1 h2 => ?_, .inr ⟨by simp, by simp, rfl, by show 0 < f (D + 1); omega⟩⟩
      · show f j ≤ f (D + 1)
        rcases Nat.lt_or_ge j (D + 1) with h3 | h3
        · have := ih.le j h1 (by omega); omega
        · obtain rfl : j = D + 1 := by omega
          exact Nat.le_refl _
      · have h2 : j < D + 1 := h2
        show f j < f (D + 1)
        have := ih.le j h1 (by omega); omega
    · rw [if_neg h]
      refine ⟨fun j h1 h2 => ?_, ih.lt, ?_⟩
      · rcases Nat.lt_or_ge j (D + 1) with h3 | h3
        · exact ih.le j h1 (by omega)
        · obtain rfl : j = D + 1 := by omega
          omega
      · rcases ih.at_ with e | ⟨e1, e2, e3⟩
        · exact .inl e
        · exact .inr ⟨e1, by omega, e3⟩
theorem BestIs.unique {f : Nat → Nat} {D n k n' k' : Nat} (h : BestIs f D n k) (h' : BestIs f D n' k') : n = n' ∧ k = k' := by
  have hn : n = n' := by
    rcases h.at_ with ⟨e1, e2⟩ | ⟨e1, e2, e3, e4⟩
    · rcases h'.at_ with ⟨e1', _⟩ | ⟨a1, a2, a3, a4⟩
      · omega
      · have := h.le k' a1 a2; omega
    · rcases h'.at_ with ⟨a1, _⟩ | ⟨a1, a2, a3, a4⟩
      · have := h'.le k e1 e2; omega
      · have b1 := h.le k' a1 a2
        have b2 := h'.le k e1 e2
        omega
  refine ⟨hn, ?_⟩
  subst hn
  rcases h.at_ with ⟨e1, e2⟩ | ⟨e1, e2, e3, e4⟩
  · rcases h'.at_ with ⟨_, a2⟩ | ⟨a1, a2, a3, a4⟩
    · omega
    · omega
  · rcases h'.at_ with ⟨a1, _⟩ | ⟨a1, a2, a3, a4⟩
    · omega
    · rcases Nat.lt_trichotomy k k' with hlt | e | hlt
      · have := h'.lt k e1 hlt; omega
      · exact e
      · have := h.lt k' a1 hlt; omega
end Go.Proofs.Ytnglkipjiojipaa
