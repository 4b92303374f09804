/- Numbers in as few bytes as possible. Plain mathematics. -/
namespace Go.Proofs.YthfmhjpmcapcbaaDoor.Vl
/-- The bytes of a number, up to f of them ahead of the last. -/
def put : Nat → Nat → List UInt8
  | 0, n => [UInt8.ofNat n]
  | f + 1, n => if n < 128 then [UInt8.ofNat n] else UInt8.ofNat (n % 128 + 128) :: put f (n / 128)
theorem put_small {f n : Nat} (h : n < 128) : put f n = [UInt8.ofNat n] := by
  cases f with
  | zero => rfl
  | succ f => rw [put, if_pos h]
theorem put_big {f n : Nat} (h : ¬ n < 128) : put (f + 1) n = UInt8.ofNat (n % 128 + 128) :: put f (n / 128) := by rw [put, if_neg h]
theorem put_length (f n : Nat) : 1 ≤ (put f n).length ∧ (put f n).length ≤ f + 1 := by
  induction f generalizing n with
  | zero => exact ⟨Nat.le_refl _, Nat.le_refl _⟩
  | succ f ih =>
    by_cases h : n < 128
    · rw [put_small h]; simp
    · rw [put_big h]; have := ih (n / 128); simp; omega
theorem or128 : ∀ k : Fin 256, k.val ||| 128 = k.val % 128 + 128 := by decide +kernel
end Go.Proofs.YthfmhjpmcapcbaaDoor.Vl
