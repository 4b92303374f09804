/- A range decoder as numbers: the place of the next byte, Code, Range, whether it is out. Plain mathematics. -/
import Derived.Test.YtdkimllfpiphgaaRcMath2
namespace Go.Proofs.Ytdkimllfpiphgaa.Rd

structure St where
  pos : Nat
  c : Nat
  r : Nat
  out : Bool

/-- A byte more is read, or it is out. -/
def next (l : List UInt8) (s : St) : St :=
  if h : s.pos < l.length then ⟨s.pos + 1, (256 * s.c + (l[s.pos]).toNat) % 4294967296, s.r * 256, false⟩ else ⟨s.pos, 0, 0, true⟩

def scale (l : List UInt8) : Nat → St → St
  | 0, s => s
  | N + 1, s => if s.out = false ∧ s.r < 16777216 then scale l N (next l s) else s

theorem next_in {l : List UInt8} {s : St} (h : s.pos < l.length) : next l s = ⟨s.pos + 1, (256 * s.c + (l[s.pos]).toNat) % 4294967296, s.r * 256, false⟩ := dif_pos h
theorem next_end {l : List UInt8} {s : St} (h : ¬ s.pos < l.length) : next l s = ⟨s.pos, 0, 0, true⟩ := dif_neg h
theorem scale_out {l : List UInt8} {N : Nat} {s : St} (h : s.out = true) : scale l N s = s := by
  cases N with
  | zero => rfl
  | succ N => rw [scale, if_neg (by simp [h])]
theorem scale_big {l : List UInt8} {N : Nat} {s : St} (h : ¬ s.r < 16777216) : scale l N s = s := by
  cases N with
  | zero => rfl
  | succ N => rw [scale, if_neg (by simp [h])]
theorem scale_step {l : List UInt8} {N : Nat} {s : St} (h : s.out = false) (hr : s.r < 16777216) : scale l (N + 1) s = scale l N (next l s) := by rw [scale, if_pos ⟨h, hr⟩]

/-- What may be. -/
def St.fits (l : List UInt8) (s : St) : Prop := s.pos ≤ l.length ∧ s.c < 4294967296 ∧ s.r < 4294967296
def St.ok (l : List UInt8) (s : St) : Prop := s.fits l ∧ (s.out = false → 16777216 ≤ s.r)

theorem next_fits {l : List UInt8} {s : St} (h : s.fits l) (hr : s.r < 16777216) : (next l s).fits l := by
  obtain ⟨h1, h2, h3⟩ := h
  by_cases hp : s.pos < l.length
  · rw [next_in hp]
    exact ⟨hp, Nat.mod_lt _ (by omega), by show s.r * 256 < _; omega⟩
  · rw [next_end hp]; exact ⟨h1, by show 0 < _; omega, by show 0 < _; omega⟩

theorem scale_ok (l : List UInt8) (N : Nat) (s : St) (h : s.fits l) (hr : s.out = false → 16777216 ≤ s.r * 256 ^ N) : (scale l N s).ok l := by
  induction N generalizing s with
  | zero => exact ⟨h, fun ho => by show 16777216 ≤ s.r; have := hr ho; simpa using this⟩
  | succ N ih =>
    by_cases ho : s.out = true
    · rw [scale_out ho]; exact ⟨h, by simp [ho]⟩
    · have ho' : s.out = false := by simpa using ho
      by_cases hb : s.r < 16777216
      · rw [scale_step ho' hb]
        refine ih _ (next_fits h hb) ?_
        by_cases hp : s.pos < l.length
        · rw [next_in hp]
          intro _
          show 16777216 ≤ s.r * 256 * 256 ^ N
          have := hr ho'
          rw [Nat.pow_succ, Nat.mul_comm (256 ^ N), ← Nat.mul_assoc] at this; exact this
        · rw [next_end hp]; intro h; cases h
      · rw [scale_big hb]; exact ⟨h, fun _ => by omega⟩

/-- The half that is taken, with a chance. -/
def St.one (s : St) (p : Nat) : Bool := decide (s.r / 2048 * p ≤ s.c)
def St.pick (s : St) (p : Nat) : St := if s.r / 2048 * p ≤ s.c then ⟨s.pos, s.c - s.r / 2048 * p, s.r - s.r / 2048 * p, false⟩ else ⟨s.pos, s.c, s.r / 2048 * p, false⟩
theorem St.pick_fits {l : List UInt8} {s : St} {p : Nat} (h : s.ok l) (ho : s.out = false) (h1 : 1 ≤ p) (h2 : p ≤ 2047) : (s.pick p).fits l ∧ 8192 ≤ (s.pick p).r := by
  obtain ⟨⟨hp, hc, hr⟩, hb⟩ := h
  have hb := hb ho
  have k1 : s.r / 2048 * 1 ≤ s.r / 2048 * p := Nat.mul_le_mul_left _ h1
  have k2 : s.r / 2048 * p ≤ s.r / 2048 * 2047 := Nat.mul_le_mul_left _ h2
  unfold St.pick St.fits
  by_cases hcp : s.r / 2048 * p ≤ s.c
  · rw [if_pos hcp]; simp only; omega
  · rw [if_neg hcp]; simp only; omega

/-- A bit is read. -/
def St.bit (l : List UInt8) (s : St) (p : Nat) : Bool × St := if s.out then (false, s) else (s.one p, scale l 2 (s.pick p))
theorem St.bit_ok {l : List UInt8} {s : St} {p : Nat} (h : s.ok l) (h1 : 1 ≤ p) (h2 : p ≤ 2047) : (s.bit l p).2.ok l := by
  unfold St.bit
  by_cases ho : s.out = true
  · rw [if_pos ho]; exact h
  · rw [if_neg ho]
    have ho' : s.out = false := by simpa using ho
    obtain ⟨k1, k2⟩ := St.pick_fits h ho' h1 h2
    exact scale_ok l 2 _ k1 (fun _ => by omega)

/-- The half that is taken, plainly. -/
def St.half (s : St) : St := if s.r / 2 ≤ s.c then ⟨s.pos, s.c - s.r / 2, s.r / 2, false⟩ else ⟨s.pos, s.c, s.r / 2, false⟩
theorem St.half_fits {l : List UInt8} {s : St} (h : s.ok l) (ho : s.out = false) : s.half.fits l ∧ 8388608 ≤ s.half.r := by
  obtain ⟨⟨hp, hc, hr⟩, hb⟩ := h
  have hb := hb ho
  unfold St.half St.fits
  by_cases hcp : s.r / 2 ≤ s.c
  · rw [if_pos hcp]; simp only; omega
  · rw [if_neg hcp]; simp only; omega

/-- Plain bits, the most significant one first. -/
def St.rounds (l : List UInt8) (s : St) : Nat → Nat × St
  | 0 => (0, s)
  | n + 1 => if (s.rounds l n).2.out then s.rounds l n else
      (2 * (s.rounds l n).1 + (if (s.rounds l n).2.r / 2 ≤ (s.rounds l n).2.c then 1 else 0), scale l 1 (s.rounds l n).2.half)
theorem St.rounds_ok {l : List UInt8} {s : St} (h : s.ok l) (n : Nat) : (s.rounds l n).2.ok l ∧ (s.rounds l n).1 < 2 ^ n := by
  induction n with
  | zero => exact ⟨h, by show 0 < 1; omega⟩
  | succ n ih =>
    obtain ⟨h1, h2⟩ := ih
    rw [St.rounds]
    by_cases ho : (s.rounds l n).2.out = true
    · rw [if_pos ho]; exact ⟨h1, by rw [Nat.pow_succ]; omega⟩
    · rw [if_neg ho]
      have ho' : (s.rounds l n).2.out = false := by simpa using ho
      obtain ⟨k1, k2⟩ := St.half_fits h1 ho'
      refine ⟨scale_ok l 1 _ k1 (fun _ => by omega), ?_⟩
      show 2 * (s.rounds l n).1 + _ < _
      rw [Nat.pow_succ]
      split <;> omega
/-- Once out, always out. -/
theorem St.rounds_out {l : List UInt8} {s : St} {n m : Nat} (hnm : n ≤ m) (h : (s.rounds l n).2.out = true) : s.rounds l m = s.rounds l n := by
  induction m with
  | zero => obtain rfl : n = 0 := by omega
            rfl
  | succ m ih =>
    rcases Nat.lt_or_ge m n with h1 | h1
    · obtain rfl : n = m + 1 := by omega
      rfl
    · have := ih h1
      rw [St.rounds, this, if_pos h]
/-- What they come to. -/
def St.plain (l : List UInt8) (s : St) (n : Nat) : Nat × St := if (s.rounds l n).2.out then (0, (s.rounds l n).2) else s.rounds l n
def St.done (l : List UInt8) (s : St) : Bool := !s.out && (s.pos == l.length && s.c == 0)
end Go.Proofs.Ytdkimllfpiphgaa.Rd
