/- Plain mathematics of the range coder, more: what scaling keeps; plain bits. -/
import Derived.Test.YtdkimllfpiphgaaRcMath
namespace Go.Proofs.Ytdkimllfpiphgaa.Rc

theorem St.scale_ok (N : Nat) (s : St) (hf : s.fits) (hr : 16777216 ≤ s.r * 256 ^ N) : (St.scale N s).ok := by
  induction N generalizing s with
  | zero => exact ⟨hf, by show 16777216 ≤ s.r; simpa using hr⟩
  | succ N ih =>
    rw [St.scale]
    by_cases h : s.r < 16777216
    · rw [if_pos h]
      refine ih _ (s.up_fits hf h) ?_
      show 16777216 ≤ s.r * 256 * 256 ^ N
      rw [Nat.pow_succ, Nat.mul_comm (256 ^ N), ← Nat.mul_assoc] at hr; exact hr
    · rw [if_neg h]; exact ⟨hf, by omega⟩
theorem St.scale_k (N : Nat) (s : St) : (St.scale N s).k ≤ s.k + N := by
  induction N generalizing s with
  | zero => exact Nat.le_refl _
  | succ N ih =>
    rw [St.scale]
    by_cases h : s.r < 16777216
    · rw [if_pos h]
      have := ih s.up
      have e : s.up.k = s.k + 1 := rfl
      omega
    · rw [if_neg h]; omega

/-- A bit. -/
def St.bit (s : St) (c : Nat) (one : Bool) : St := St.scale 2 (s.pick (fair c) one)
theorem St.pick_k (s : St) (p : Nat) (one : Bool) : (s.pick p one).k = s.k := by unfold St.pick; cases one <;> rfl
theorem St.bit_ok (s : St) (c : Nat) (one : Bool) (h : s.ok) : (s.bit c one).ok := by
  obtain ⟨h1, h2⟩ := fair_bounds c
  obtain ⟨hf, hr⟩ := s.pick_fits (fair c) one h h1 h2
  exact St.scale_ok 2 _ hf (by omega)
theorem St.bit_k (s : St) (c : Nat) (one : Bool) : (s.bit c one).k ≤ s.k + 2 := by
  have := St.scale_k 2 (s.pick (fair c) one)
  rw [St.pick_k] at this; exact this

/-- Half of the work of a plain bit. -/
def St.half (s : St) (one : Bool) : St := if one then ⟨s.k, s.v + s.r / 2, s.r / 2⟩ else ⟨s.k, s.v, s.r / 2⟩
theorem St.half_fits (s : St) (one : Bool) (h : s.ok) : (s.half one).fits ∧ 8388608 ≤ (s.half one).r := by
  obtain ⟨⟨hf1, hf2⟩, hr⟩ := h
  unfold St.half St.fits
  cases one
  · simp only [Bool.false_eq_true, if_false]; omega
  · simp only [if_true]; omega
/-- The n lowest bits of x, the most significant one first. -/
def St.plain (s : St) : Nat → Nat → St
  | _, 0 => s
  | x, n + 1 => St.scale 1 ((St.plain s (x / 2) n).half (x % 2 == 1))
theorem St.half_k (s : St) (one : Bool) : (s.half one).k = s.k := by unfold St.half; cases one <;> rfl
theorem St.plain_ok (s : St) (h : s.ok) (n x : Nat) : (s.plain x n).ok ∧ (s.plain x n).k ≤ s.k + n := by
  induction n generalizing x with
  | zero => exact ⟨h, Nat.le_refl _⟩
  | succ n ih =>
    obtain ⟨h1, h2⟩ := ih (x / 2)
    obtain ⟨hf, hr⟩ := (s.plain (x / 2) n).half_fits (x % 2 == 1) h1
    refine ⟨St.scale_ok 1 _ hf (by omega), ?_⟩
    have := St.scale_k 1 ((s.plain (x / 2) n).half (x % 2 == 1))
    rw [St.half_k] at this
    show (St.scale 1 _).k ≤ _
    omega
theorem St.ok_small (s : St) (h : s.ok) : s.v < 256 ^ (4 + s.k) := by
  obtain ⟨⟨h1, _⟩, h2⟩ := h; omega
end Go.Proofs.Ytdkimllfpiphgaa.Rc
