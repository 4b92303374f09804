/- Plain mathematics of the range coder: numbers as bytes, the most significant one first; the coder's state. -/
namespace Go.Proofs.Ytdkimllfpiphgaa.Rc

/-- n bytes of a number, the most significant one first. -/
def be : Nat → Nat → List UInt8
  | 0, _ => []
  | n + 1, v => be n (v / 256) ++ [UInt8.ofNat (v % 256)]

theorem be_length (n v : Nat) : (be n v).length = n := by
  induction n generalizing v with
  | zero => rfl
  | succ n ih => simp [be, ih]

theorem be_mod (n v : Nat) : be n (v % 256 ^ n) = be n v := by
  induction n generalizing v with
  | zero => rfl
  | succ n ih =>
    simp only [be]
    have h1 : v % 256 ^ (n + 1) / 256 = v / 256 % 256 ^ n := by
      rw [Nat.pow_succ, Nat.mul_comm, Nat.mod_mul_right_div_self]
    have h2 : v % 256 ^ (n + 1) % 256 = v % 256 := by
      rw [Nat.pow_succ, Nat.mod_mul_left_mod]
    rw [h1, h2, ih]

theorem be_add (m n v : Nat) : be (m + n) v = be m (v / 256 ^ n) ++ be n v := by
  induction n generalizing v with
  | zero => simp [be]
  | succ n ih =>
    rw [← Nat.add_assoc]
    simp only [be]
    rw [ih, ← List.append_assoc]
    congr 2
    rw [Nat.div_div_eq_div_mul, Nat.pow_succ, Nat.mul_comm]

theorem be_zero (n : Nat) : be n 0 = List.replicate n 0 := by
  induction n with
  | zero => rfl
  | succ n ih => simp only [be]; rw [Nat.zero_div, ih, List.replicate_succ', Nat.zero_mod]; rfl

/-- A number that is small enough has a leading 0. -/
theorem be_lead (n v : Nat) (h : v < 256 ^ n) : be (1 + n) v = 0 :: be n v := by
  rw [be_add, Nat.div_eq_of_lt h]; rfl

/-- The i-th byte. -/
theorem be_get (n v i : Nat) (h : i < n) : (be n v)[i]'(by rw [be_length]; exact h) = UInt8.ofNat (v / 256 ^ (n - 1 - i) % 256) := by
  induction n generalizing v with
  | zero => omega
  | succ n ih =>
    simp only [be]
    by_cases hi : i < n
    · rw [List.getElem_append_left (by rw [be_length]; exact hi), ih _ hi, Nat.div_div_eq_div_mul]
      congr 3
      rw [show n + 1 - 1 - i = (n - 1 - i) + 1 by omega, Nat.pow_succ, Nat.mul_comm]
    · obtain rfl : i = n := by omega
      rw [List.getElem_append_right (by rw [be_length]; omega)]
      simp [be_length]

/-- The coder: so many multiplications, Low, Range. -/
structure St where
  k : Nat
  v : Nat
  r : Nat

def St.fits (s : St) : Prop := s.v + s.r ≤ 256 ^ (4 + s.k) ∧ s.r < 4294967296
def St.ok (s : St) : Prop := s.fits ∧ 16777216 ≤ s.r

/-- Both are multiplied once. -/
def St.up (s : St) : St := ⟨s.k + 1, s.v * 256, s.r * 256⟩
/-- As long as Range is small (at most n times). -/
def St.scale : Nat → St → St
  | 0, s => s
  | n + 1, s => if s.r < 16777216 then St.scale n s.up else s

theorem St.up_fits (s : St) (h : s.fits) (hr : s.r < 16777216) : s.up.fits := by
  refine ⟨?_, ?_⟩
  · show s.v * 256 + s.r * 256 ≤ 256 ^ (4 + (s.k + 1))
    rw [← Nat.add_assoc 4, Nat.pow_succ, ← Nat.add_mul]
    exact Nat.mul_le_mul_right _ h.1
  · show s.r * 256 < 4294967296
    omega

/-- A probability that counts. -/
def fair (c : Nat) : Nat := if c < 1 ∨ 2048 ≤ c then 1024 else c
theorem fair_bounds (c : Nat) : 1 ≤ fair c ∧ fair c ≤ 2047 := by unfold fair; split <;> omega
/-- The probability behind a bit. -/
def next (p : Nat) (one : Bool) : Nat := if one then p - p / 32 else p + (2048 - p) / 32

/-- Half of the work of a bit: the interval is chosen. -/
def St.pick (s : St) (p : Nat) (one : Bool) : St := if one then ⟨s.k, s.v + s.r / 2048 * p, s.r - s.r / 2048 * p⟩ else ⟨s.k, s.v, s.r / 2048 * p⟩
theorem St.pick_fits (s : St) (p : Nat) (one : Bool) (h : s.ok) (h1 : 1 ≤ p) (h2 : p ≤ 2047) : (s.pick p one).fits ∧ 8192 ≤ (s.pick p one).r := by
  have hb : s.r / 2048 * p ≤ s.r / 2048 * 2047 := Nat.mul_le_mul_left _ h2
  have hb1 : s.r / 2048 * 1 ≤ s.r / 2048 * p := Nat.mul_le_mul_left _ h1
  obtain ⟨⟨hf1, hf2⟩, hr⟩ := h
  unfold St.pick St.fits
  cases one
  · simp only [Bool.false_eq_true, if_false]; omega
  · simp only [if_true]; omega

/-- The bytes of V while a carry goes up through t of them. -/
def rolled (m t V : Nat) : List UInt8 := be (m - t) (V / 256 ^ t) ++ List.replicate t 0
theorem rolled_zero (m V : Nat) : rolled m 0 V = be m V := by simp [rolled]
theorem rolled_split (m t V : Nat) (h : t < m) : rolled m t V = be (m - (t + 1)) (V / 256 ^ (t + 1)) ++ (UInt8.ofNat (V / 256 ^ t % 256) :: List.replicate t 0) := by
  unfold rolled
  obtain ⟨j, hj⟩ : ∃ j, m - t = j + 1 := ⟨m - t - 1, by omega⟩
  rw [hj, show m - (t + 1) = j by omega, be, Nat.div_div_eq_div_mul, Nat.pow_succ, List.append_assoc]; rfl
theorem rolled_length (m t V : Nat) (h : t ≤ m) : (rolled m t V).length = m := by
  unfold rolled; rw [List.length_append, be_length, List.length_replicate]; omega
theorem rolled_get (m t V : Nat) (h : t < m) : (rolled m t V)[m - 1 - t]? = some (UInt8.ofNat (V / 256 ^ t % 256)) := by
  rw [rolled_split m t V h, List.getElem?_append_right (by rw [be_length]; omega), be_length, show m - 1 - t - (m - (t + 1)) = 0 by omega]; rfl
theorem rolled_set (m t V : Nat) (h : t < m) (x : UInt8) : (rolled m t V).set (m - 1 - t) x = be (m - (t + 1)) (V / 256 ^ (t + 1)) ++ (x :: List.replicate t 0) := by
  rw [rolled_split m t V h, List.set_append_right _ _ (by rw [be_length]; omega), be_length, show m - 1 - t - (m - (t + 1)) = 0 by omega]; rfl
theorem rolled_next (m t V : Nat) (h : t < m) : (rolled m t V).set (m - 1 - t) 0 = rolled m (t + 1) V := by
  rw [rolled_set m t V h]; unfold rolled; rw [List.replicate_succ]
theorem all_next (t V : Nat) (h : V % 256 ^ t = 256 ^ t - 1) (h2 : V / 256 ^ t % 256 = 255) : V % 256 ^ (t + 1) = 256 ^ (t + 1) - 1 := by
  have hp : 0 < 256 ^ t := Nat.pos_of_ne_zero (by simp)
  rw [Nat.pow_succ, Nat.mod_mul, h, h2]; omega
theorem succ_div (t V : Nat) (h : V % 256 ^ t = 256 ^ t - 1) : V + 1 = (V / 256 ^ t + 1) * 256 ^ t := by
  have hp : 0 < 256 ^ t := Nat.pos_of_ne_zero (by simp)
  have := Nat.div_add_mod V (256 ^ t)
  rw [Nat.add_mul, Nat.mul_comm (V / 256 ^ t)]; omega
theorem rolled_stop (m t V : Nat) (h : t < m) (hv : V % 256 ^ t = 256 ^ t - 1) (h2 : V / 256 ^ t % 256 ≠ 255) :
    (rolled m t V).set (m - 1 - t) (UInt8.ofNat (V / 256 ^ t % 256) + 1) = be m (V + 1) := by
  have hp : 0 < 256 ^ t := Nat.pos_of_ne_zero (by simp)
  rw [rolled_set m t V h]
  have e1 : be m (V + 1) = be (m - t) (V / 256 ^ t + 1) ++ List.replicate t 0 := by
    conv => lhs; rw [show m = (m - t) + t by omega]
    rw [be_add, succ_div t V hv, Nat.mul_div_cancel _ hp]
    congr 1
    rw [← be_mod, Nat.mul_mod_left, be_zero]
  rw [e1]
  obtain ⟨j, hj⟩ : ∃ j, m - t = j + 1 := ⟨m - t - 1, by omega⟩
  rw [hj, show m - (t + 1) = j by omega, be]
  have e2 : (V / 256 ^ t + 1) / 256 = V / 256 ^ (t + 1) := by rw [Nat.pow_succ, ← Nat.div_div_eq_div_mul]; omega
  have e3 : UInt8.ofNat ((V / 256 ^ t + 1) % 256) = UInt8.ofNat (V / 256 ^ t % 256) + 1 := by
    apply UInt8.toNat_inj.1
    rw [UInt8.toNat_add, UInt8.toNat_ofNat', UInt8.toNat_ofNat']
    simp
  rw [e2, e3, List.append_assoc]; rfl
theorem rolled_end (m V : Nat) (hv : V % 256 ^ m = 256 ^ m - 1) : rolled m m V = be m (V + 1) := by
  unfold rolled
  rw [Nat.sub_self, be, List.nil_append, ← be_mod, succ_div m V hv, Nat.mul_mod_left, be_zero]
end Go.Proofs.Ytdkimllfpiphgaa.Rc
