/- What longest comes to, over a rising list of distances. -/
import Derived.Test.YtnglkipjiojipaaFdPure
namespace Go.Proofs.Ytnglkipjiojipaa

/-- The best of the distances in S. -/
structure BestOn (S : Nat → Prop) (f : Nat → Nat) (n k : Nat) : Prop where
  le : ∀ j, S j → f j ≤ n
  lt : ∀ j, S j → j < k → f j < n
  at_ : (n = 0 ∧ k = 0) ∨ (S k ∧ f k = n ∧ 0 < n)
theorem BestOn.none (f : Nat → Nat) : BestOn (fun _ => False) f 0 0 := ⟨fun _ h => h.elim, fun _ h => h.elim, .inl ⟨rfl, rfl⟩⟩
theorem BestOn.iff {S T : Nat → Prop} {f : Nat → Nat} {n k : Nat} (h : BestOn S f n k) (e : ∀ j, T j ↔ S j) : BestOn T f n k :=
  ⟨fun j hj => h.le j ((e j).1 hj), fun j hj => h.lt j ((e j).1 hj), h.at_.imp id fun ⟨a, b⟩ => ⟨(e k).2 a, b⟩⟩
/-- One distance more that isn't better. -/
theorem BestOn.skip {S : Nat → Prop} {f : Nat → Nat} {n k j : Nat} (h : BestOn S f n k) (hj : ∀ s, S s → s < j) (hf : f j ≤ n) : BestOn (fun x => S x ∨ x = j) f n k := by
  refine ⟨?_, ?_, ?_⟩
  · rintro x (hx | rfl)
    · exact h.le x hx
    · exact hf
  · rintro x (hx | rfl) hlt
    · exact h.lt x hx hlt
    · rcases h.at_ with ⟨_, e⟩ | ⟨e, _⟩
      · omega
      · have := hj k e; omega
  · rcases h.at_ with e | ⟨e, e2⟩
    · exact .inl e
    · exact .inr ⟨.inl e, e2⟩
/-- One that is. -/
theorem BestOn.take {S : Nat → Prop} {f : Nat → Nat} {n k j : Nat} (h : BestOn S f n k) (hj : ∀ s, S s → s < j) (hf : n < f j) : BestOn (fun x => S x ∨ x = j) f (f j) j := by
  refine ⟨?_, ?_, .inr ⟨.inr rfl, rfl, by omega⟩⟩
  · rintro x (hx | rfl)
    · have := h.le x hx; omega
    · exact Nat.le_refl _
  · rintro x (hx | rfl) hlt
    · have := h.le x hx; omega
    · omega
/-- No more than the limit. -/
theorem eqLen_le (d : List UInt8) (p q L : Nat) : eqLen d p q L ≤ L := (isLen_eqLen d L p q).le
/-- It cannot be longer where the next byte differs. -/
theorem eqLen_cut {d : List UInt8} {p q L n : Nat} (h : d.getD (q + n) 0 ≠ d.getD (p + n) 0) : eqLen d p q L ≤ n := by
  rcases Nat.lt_or_ge n (eqLen d p q L) with hl | hl
  · exact absurd ((isLen_eqLen d L p q).eq n hl).symm h
  · exact hl
/-- Of all distances that count, only those of S are long: the best of S is the best of all, where it is long enough. -/
theorem BestOn.all {S : Nat → Prop} {f : Nat → Nat} {n k D m : Nat} (h : BestOn S f n k) (hS : ∀ j, S j → 1 ≤ j ∧ j ≤ D) (hm : ∀ j, 1 ≤ j → j ≤ D → m ≤ f j → S j) (hn : m ≤ n) (h0 : 0 < m) : BestIs f D n k := by
  refine ⟨fun j h1 h2 => ?_, fun j h1 h2 => ?_, ?_⟩
  · rcases Nat.lt_or_ge (f j) m with h3 | h3
    · omega
    · exact h.le j (hm j h1 h2 h3)
  · rcases h.at_ with ⟨e, _⟩ | ⟨e, _⟩
    · omega
    · have hk := (hS k e).2
      rcases Nat.lt_or_ge (f j) m with h3 | h3
      · omega
      · exact h.lt j (hm j h1 (by omega) h3) h2
  · rcases h.at_ with e | ⟨e, e2, e3⟩
    · omega
    · exact .inr ⟨(hS k e).1, (hS k e).2, e2, e3⟩
/-- A lesser limit tells alike, where none is as long. -/
theorem eqLen_limit {d : List UInt8} {p q L M : Nat} (hM : M ≤ L) : eqLen d p q M = min (eqLen d p q L) M := by
  have h := isLen_eqLen d L p q
  refine (IsLen.is (n := min (eqLen d p q L) M) ⟨Nat.min_le_right _ _, fun i hi => h.eq i (by omega), ?_⟩).symm
  rcases Nat.lt_or_ge (eqLen d p q L) M with hl | hl
  · rw [Nat.min_eq_left (by omega)]
    rcases h.stop with e | e
    · omega
    · exact .inr e
  · exact .inl (by omega)
end Go.Proofs.Ytnglkipjiojipaa
