/- Several texts in one: RcMath, RcEnc, RcAdd. -/
import Derived.Test.YtkckjjchfccdjaaMg1
import Derived.BigRegion
/- Plain mathematics of the range coder: numbers as bytes, the most significant one first; the coder's state. -/
namespace Go.Proofs.Ytkckjjchfccdjaa.Rc

/-- n bytes of a number, the most significant one first. -/
def be : Nat → Nat → List UInt8
  | 0, _ => []
  | n + 1, v => be n (v / 256) ++ [UInt8.ofNat (v % 256)]

theorem be_length (n v : Nat) : (be n v).length = n := by
  induction n generalizing v with
  | zero => rfl
  | succ n ih => simp [be, ih]

theorem be_mod (n v : Nat) : be n (v % 256 ^ n) = be n v := by
  induction n generalizing v with
  | zero => rfl
  | succ n ih =>
    simp only [be]
    have h1 : v % 256 ^ (n + 1) / 256 = v / 256 % 256 ^ n := by
      rw [Nat.pow_succ, Nat.mul_comm, Nat.mod_mul_right_div_self]
    have h2 : v % 256 ^ (n + 1) % 256 = v % 256 := by
      rw [Nat.pow_succ, Nat.mod_mul_left_mod]
    rw [h1, h2, ih]

theorem be_add (m n v : Nat) : be (m + n) v = be m (v / 256 ^ n) ++ be n v := by
  induction n generalizing v with
  | zero => simp [be]
  | succ n ih =>
    rw [← Nat.add_assoc]
    simp only [be]
    rw [ih, ← List.append_assoc]
    congr 2
    rw [Nat.div_div_eq_div_mul, Nat.pow_succ, Nat.mul_comm]

theorem be_zero (n : Nat) : be n 0 = List.replicate n 0 := by
  induction n with
  | zero => rfl
  | succ n ih => simp only [be]; rw [Nat.zero_div, ih, List.replicate_succ', Nat.zero_mod]; rfl

/-- A number that is small enough has a leading 0. -/
theorem be_lead (n v : Nat) (h : v < 256 ^ n) : be (1 + n) v = 0 :: be n v := by
  rw [be_add, Nat.div_eq_of_lt h]; rfl

/-- The i-th byte. -/
theorem be_get (n v i : Nat) (h : i < n) : (be n v)[i]'(by rw [be_length]; exact h) = UInt8.ofNat (v / 256 ^ (n - 1 - i) % 256) := by
  induction n generalizing v with
  | zero => omega
  | succ n ih =>
    simp only [be]
    by_cases hi : i < n
    · rw [List.getElem_append_left (by rw [be_length]; exact hi), ih _ hi, Nat.div_div_eq_div_mul]
      congr 3
      rw [show n + 1 - 1 - i = (n - 1 - i) + 1 by omega, Nat.pow_succ, Nat.mul_comm]
    · obtain rfl : i = n := by omega
      rw [List.getElem_append_right (by rw [be_length]; omega)]
      simp [be_length]

/-- The coder: so many multiplications, Low, Range. -/
structure St where
  k : Nat
  v : Nat
  r : Nat

def St.fits (s : St) : Prop := s.v + s.r ≤ 256 ^ (4 + s.k) ∧ s.r < 4294967296
def St.ok (s : St) : Prop := s.fits ∧ 16777216 ≤ s.r

/-- Both are multiplied once. -/
def St.up (s : St) : St := ⟨s.k + 1, s.v * 256, s.r * 256⟩
/-- As long as Range is small (at most n times). -/
def St.scale : Nat → St → St
  | 0, s => s
  | n + 1, s => if s.r < 16777216 then St.scale n s.up else s

theorem St.up_fits (s : St) (h : s.fits) (hr : s.r < 16777216) : s.up.fits := by
  refine ⟨?_, ?_⟩
  · show s.v * 256 + s.r * 256 ≤ 256 ^ (4 + (s.k + 1))
    rw [← Nat.add_assoc 4, Nat.pow_succ, ← Nat.add_mul]
    exact Nat.mul_le_mul_right _ h.1
  · show s.r * 256 < 4294967296
    omega

/-- A probability that counts. -/
def fair (c : Nat) : Nat := if c < 1 ∨ 2048 ≤ c then 1024 else c
theorem fair_bounds (c : Nat) : 1 ≤ fair c ∧ fair c ≤ 2047 := by unfold fair; split <;> omega
/-- The probability behind a bit. -/
def next (p : Nat) (one : Bool) : Nat := if one then p - p / 32 else p + (2048 - p) / 32

/-- Half of the work of a bit: the interval is chosen. -/
def St.pick (s : St) (p : Nat) (one : Bool) : St := if one then ⟨s.k, s.v + s.r / 2048 * p, s.r - s.r / 2048 * p⟩ else ⟨s.k, s.v, s.r / 2048 * p⟩
theorem St.pick_fits (s : St) (p : Nat) (one : Bool) (h : s.ok) (h1 : 1 ≤ p) (h2 : p ≤ 2047) : (s.pick p one).fits ∧ 8192 ≤ (s.pick p one).r := by
  have hb : s.r / 2048 * p ≤ s.r / 2048 * 2047 := Nat.mul_le_mul_left _ h2
  have hb1 : s.r / 2048 * 1 ≤ s.r / 2048 * p := Nat.mul_le_mul_left _ h1
  obtain ⟨⟨hf1, hf2⟩, hr⟩ := h
  unfold St.pick St.fits
  cases one
  · simp only [Bool.false_eq_true, if_false]; omega
  · simp only [if_true]; omega

/-- The bytes of V while a carry goes up through t of them. -/
def rolled (m t V : Nat) : List UInt8 := be (m - t) (V / 256 ^ t) ++ List.replicate t 0
theorem rolled_zero (m V : Nat) : rolled m 0 V = be m V := by simp [rolled]
theorem rolled_split (m t V : Nat) (h : t < m) : rolled m t V = be (m - (t + 1)) (V / 256 ^ (t + 1)) ++ (UInt8.ofNat (V / 256 ^ t % 256) :: List.replicate t 0) := by
  unfold rolled
  obtain ⟨j, hj⟩ : ∃ j, m - t = j + 1 := ⟨m - t - 1, by omega⟩
  rw [hj, show m - (t + 1) = j by omega, be, Nat.div_div_eq_div_mul, Nat.pow_succ, List.append_assoc]; rfl
theorem rolled_length (m t V : Nat) (h : t ≤ m) : (rolled m t V).length = m := by
  unfold rolled; rw [List.length_append, be_length, List.length_replicate]; omega
theorem rolled_get (m t V : Nat) (h : t < m) : (rolled m t V)[m - 1 - t]? = some (UInt8.ofNat (V / 256 ^ t % 256)) := by
  rw [rolled_split m t V h, List.getElem?_append_right (by rw [be_length]; omega), be_length, show m - 1 - t - (m - (t + 1)) = 0 by omega]; rfl
theorem rolled_set (m t V : Nat) (h : t < m) (x : UInt8) : (rolled m t V).set (m - 1 - t) x = be (m - (t + 1)) (V / 256 ^ (t + 1)) ++ (x :: List.replicate t 0) := by
  rw [rolled_split m t V h, List.set_append_right _ _ (by rw [be_length]; omega), be_length, show m - 1 - t - (m - (t + 1)) = 0 by omega]; rfl
theorem rolled_next (m t V : Nat) (h : t < m) : (rolled m t V).set (m - 1 - t) 0 = rolled m (t + 1) V := by
  rw [rolled_set m t V h]; unfold rolled; rw [List.replicate_succ]
theorem all_next (t V : Nat) (h : V % 256 ^ t = 256 ^ t - 1) (h2 : V / 256 ^ t % 256 = 255) : V % 256 ^ (t + 1) = 256 ^ (t + 1) - 1 := by
  have hp : 0 < 256 ^ t := Nat.pos_of_ne_zero (by simp)
  rw [Nat.pow_succ, Nat.mod_mul, h, h2]; omega
theorem succ_div (t V : Nat) (h : V % 256 ^ t = 256 ^ t - 1) : V + 1 = (V / 256 ^ t + 1) * 256 ^ t := by
  have hp : 0 < 256 ^ t := Nat.pos_of_ne_zero (by simp)
  have := Nat.div_add_mod V (256 ^ t)
  rw [Nat.add_mul, Nat.mul_comm (V / 256 ^ t)]; omega
theorem rolled_stop (m t V : Nat) (h : t < m) (hv : V % 256 ^ t = 256 ^ t - 1) (h2 : V / 256 ^ t % 256 ≠ 255) :
    (rolled m t V).set (m - 1 - t) (UInt8.ofNat (V / 256 ^ t % 256) + 1) = be m (V + 1) := by
  have hp : 0 < 256 ^ t := Nat.pos_of_ne_zero (by simp)
  rw [rolled_set m t V h]
  have e1 : be m (V + 1) = be (m - t) (V / 256 ^ t + 1) ++ List.replicate t 0 := by
    conv => lhs; rw [show m = (m - t) + t by omega]
    rw [be_add, succ_div t V hv, Nat.mul_div_cancel _ hp]
    congr 1
    rw [← be_mod, Nat.mul_mod_left, be_zero]
  rw [e1]
  obtain ⟨j, hj⟩ : ∃ j, m - t = j + 1 := ⟨m - t - 1, by omega⟩
  rw [hj, show m - (t + 1) = j by omega, be]
  have e2 : (V / 256 ^ t + 1) / 256 = V / 256 ^ (t + 1) := by rw [Nat.pow_succ, ← Nat.div_div_eq_div_mul]; omega
  have e3 : UInt8.ofNat ((V / 256 ^ t + 1) % 256) = UInt8.ofNat (V / 256 ^ t % 256) + 1 := by
    apply UInt8.toNat_inj.1
    rw [UInt8.toNat_add, UInt8.toNat_ofNat', UInt8.toNat_ofNat']
    simp
  rw [e2, e3, List.append_assoc]; rfl
theorem rolled_end (m V : Nat) (hv : V % 256 ^ m = 256 ^ m - 1) : rolled m m V = be m (V + 1) := by
  unfold rolled
  rw [Nat.sub_self, be, List.nil_append, ← be_mod, succ_div m V hv, Nat.mul_mod_left, be_zero]
end Go.Proofs.Ytkckjjchfccdjaa.Rc

/- The walks over rcenc's coder. -/
namespace Go.Proofs.Ytkckjjchfccdjaa
set_option maxRecDepth 100000
open Go.RowKit

/-- Only the blocks of a list, and new ones, have turned. -/
structure Only (X : List Nat) (w w' : World) : Prop where
  os : w'.os = w.os
  tape : w'.tape = w.tape
  output : w'.output = w.output
  size : w.heap.size ≤ w'.heap.size
  block : ∀ i, i < w.heap.size → i ∉ X → w'.heap[i]? = w.heap[i]?
theorem Only.refl (X : List Nat) (w : World) : Only X w w := ⟨rfl, rfl, rfl, Nat.le_refl _, fun _ _ _ => rfl⟩
theorem Only.trans {X Y : List Nat} {a b c : World} (h : Only X a b) (k : Only Y b c) (hY : ∀ i ∈ Y, i ∈ X ∨ a.heap.size ≤ i) : Only X a c :=
  ⟨k.os.trans h.os, k.tape.trans h.tape, k.output.trans h.output, Nat.le_trans h.size k.size, fun i hi hX =>
    (k.block i (Nat.lt_of_lt_of_le hi h.size) (fun hm => by rcases hY i hm with h1 | h1; exact hX h1; omega)).trans (h.block i hi hX)⟩
theorem Only.alloc {X : List Nat} {a b : World} (h : Only X a b) (o : Obj) : Only X a (b.alloc o) :=
  h.trans (Y := []) ⟨rfl, rfl, rfl, by simp, fun i hi _ => Below.heap_alloc b o i hi⟩ (by simp)
theorem Only.setCell {X : List Nat} {a b : World} (h : Only X a b) {p : Addr} (hp : p.block ∈ X ∨ a.heap.size ≤ p.block) (u : Value) : Only X a (b.setCell p u) :=
  h.trans (Y := [p.block]) ⟨rfl, rfl, rfl, by simp, fun i _ hm => Below.heap_setCell b p u i (by simpa using hm)⟩ (by simpa using hp)
theorem Only.drew {X : List Nat} {a b : World} (h : Only X a b) : Only X a b.drew := ⟨h.os, h.tape, h.output, h.size, h.block⟩
theorem Only.grown {X : List Nat} {a b c : World} (h : Only X a b) {o : Nat} (hg : b.grownBy c (some o)) (ho : o ∈ X ∨ a.heap.size ≤ o) : Only X a c :=
  h.trans (Y := [o]) ⟨hg.os, hg.tape, hg.output, hg.size, fun i hi hm => hg.block i hi (by simpa using hm)⟩ (by simpa using ho)
theorem Only.below {X : List Nat} {a b : World} {B : Nat} (h : Only X a b) (hB : B ≤ a.heap.size) (hX : ∀ i ∈ X, B ≤ i) : Below B a b :=
  ⟨h.os, h.tape, h.output, h.size, fun i hi => h.block i (by omega) (fun hm => by have := hX i hm; omega)⟩

/-- The coder in memory: its struct in block g, its bytes in block o. -/
structure EncAt (w : World) (g o cap : Nat) (s : Rc.St) : Prop where
  blk : w.heap[g]? = some (.cells #[.int .u32 ((s.v % 4294967296 : Nat) : Int), .int .u32 ((s.r : Nat) : Int), .slice (some ⟨o, 0, none⟩) (1 + s.k) cap] 148 (0, 0))
  own : w.ownsRow 0 5 1 (.slice (some ⟨o, 0, none⟩) (1 + s.k) cap) (1 + s.k) ((Rc.be (1 + s.k) (s.v / 4294967296)).map B8)
  ne : g ≠ o

set_option maxHeartbeats 400000 in
theorem valid_any (c : BitVec 16) (w : World) : Calls Try.prog 131 #[.int .u16 c.toNat] w fun e w' => e = .returned (.int .u16 (Rc.fair c.toNat : Nat)) ∧ w = w' := by
  have hc := c.isLt
  by_cases h1 : c.toNat < 1
  · have hf : Rc.fair c.toNat = 1024 := by unfold Rc.fair; rw [if_pos (.inl h1)]
    rw [hf]
    have h1' : (c.toNat : Int) < 1 := by omega
    go_enter Try.func131, Try.ntmps131
    go_wp2_with fail
    go_ret
    exact ⟨rfl, rfl⟩
  · by_cases h2 : 2048 ≤ c.toNat
    · have hf : Rc.fair c.toNat = 1024 := by unfold Rc.fair; rw [if_pos (.inr h2)]
      rw [hf]
      have h1' : ¬ (c.toNat : Int) < 1 := by omega
      have h2' : (2048 : Int) ≤ c.toNat := by omega
      go_enter Try.func131, Try.ntmps131
      go_wp2_with fail
      go_ret
      exact ⟨rfl, rfl⟩
    · have hf : Rc.fair c.toNat = c.toNat := by unfold Rc.fair; rw [if_neg (by omega)]
      rw [hf]
      have h1' : ¬ (c.toNat : Int) < 1 := by omega
      have h2' : ¬ (2048 : Int) ≤ c.toNat := by omega
      go_enter Try.func131, Try.ntmps131
      go_wp2_with fail
      go_ret
      exact ⟨rfl, rfl⟩

def bitI (one : Bool) : Int := if one then 1 else 0
set_option maxHeartbeats 400000 in
theorem moved_any (p : Nat) (one : Bool) (w : World) (h1 : 1 ≤ p) (h2 : p ≤ 2047) : Calls Try.prog 132 #[.int .u16 p, .int .i64 (bitI one)] w fun e w' => e = .returned (.int .u16 (Rc.next p one : Nat)) ∧ w = w' := by
  cases one
  · have hn : ((Rc.next p false : Nat) : Int) = (p : Int) + (2048 - (p : Int)) / 32 := by simp only [Rc.next, Bool.false_eq_true, if_false]; omega
    have HN := Lib.hid hn
    clear hn
    unfold bitI
    simp only [Bool.false_eq_true, if_false]
    go_enter Try.func132, Try.ntmps132
    go_wp2_with fail
    go_ret
    exact ⟨congrArg (fun n : Int => Ending.returned (Value.int .u16 n)) HN.out.symm, rfl⟩
  · have hn : ((Rc.next p true : Nat) : Int) = (p : Int) - (p : Int) / 32 := by simp only [Rc.next, if_true]; omega
    have HN := Lib.hid hn
    clear hn
    unfold bitI
    simp only [if_true]
    go_enter Try.func132, Try.ntmps132
    go_wp2_with fail
    go_ret
    exact ⟨congrArg (fun n : Int => Ending.returned (Value.int .u16 n)) HN.out.symm, rfl⟩
end Go.Proofs.Ytkckjjchfccdjaa

/- The walks over the coder's add and its function literal. -/
namespace Go.Proofs.Ytkckjjchfccdjaa
set_option maxRecDepth 100000
open Go.RowKit

theorem inc_u8 (b : UInt8) : ((b.toNat : Int) + 1) % 256 = ((b + 1).toNat : Int) := by
  rw [UInt8.toNat_add]; simp

set_option maxHeartbeats 400000 in
theorem carries_any (i q g o n cap : Nat) (b : UInt8) (w : World) (hi : i < n) (_hn : n ≤ 9223372036854775807) (hqo : q ≠ o) (hgo : g ≠ o)
    (cq : w.cell? ⟨q, 0, none⟩ = some (.pointer (some ⟨g, 0, none⟩))) (cg : w.cell? ⟨g, 2, none⟩ = some (.slice (some ⟨o, 0, none⟩) n cap))
    (co : w.cell? ⟨o, i, none⟩ = some (.int .u8 (b.toNat : Nat))) (fo : w.frozen? ⟨o, i, none⟩ = false) :
    Calls Try.prog 134 #[.int .i64 i, .pointer (some ⟨q, 0, none⟩)] w fun e w' => e = .returned (.bool (((b + 1).toNat : Int) == 0)) ∧ w' = w.setCell ⟨o, i, none⟩ (B8 (b + 1)) := by
  have hinc := inc_u8 b
  have hb := b.toNat_lt
  generalize hs : b + 1 = s at *
  have HS := Lib.hid hs; clear hs
  have e1 : (⟨q, 0, none⟩ : Addr) ≠ ⟨o, i, none⟩ := fun e => hqo (congrArg Addr.block e)
  have e2 : (⟨g, 2, none⟩ : Addr) ≠ ⟨o, i, none⟩ := fun e => hgo (congrArg Addr.block e)
  have d1 : (w.setCell ⟨o, i, none⟩ (B8 s)).cell? ⟨q, 0, none⟩ = some (.pointer (some ⟨g, 0, none⟩)) := (World.cell?_setCell_other _ _ _ _ (fun e => e1 e.symm)).trans cq
  have d2 : (w.setCell ⟨o, i, none⟩ (B8 s)).cell? ⟨g, 2, none⟩ = some (.slice (some ⟨o, 0, none⟩) n cap) := (World.cell?_setCell_other _ _ _ _ (fun e => e2 e.symm)).trans cg
  go_enter Try.func134, Try.ntmps134
  go_wp2_with fail
  go_ret
  exact ⟨rfl, rfl⟩

theorem blk_set0 {w : World} {g : Nat} {a b c : Value} {t : TypeId} (h : w.heap[g]? = some (.cells #[a, b, c] t (0, 0))) (u : Value) : (w.setCell ⟨g, 0, none⟩ u).heap[g]? = some (.cells #[u, b, c] t (0, 0)) := by
  rw [heap_setCell_same w g 0 _ t u h]; rfl
theorem blk_set1 {w : World} {g : Nat} {a b c : Value} {t : TypeId} (h : w.heap[g]? = some (.cells #[a, b, c] t (0, 0))) (u : Value) : (w.setCell ⟨g, 1, none⟩ u).heap[g]? = some (.cells #[a, u, c] t (0, 0)) := by
  rw [heap_setCell_same w g 1 _ t u h]; rfl
theorem blk_set2 {w : World} {g : Nat} {a b c : Value} {t : TypeId} (h : w.heap[g]? = some (.cells #[a, b, c] t (0, 0))) (u : Value) : (w.setCell ⟨g, 2, none⟩ u).heap[g]? = some (.cells #[a, b, u] t (0, 0)) := by
  rw [heap_setCell_same w g 2 _ t u h]; rfl
theorem own_other {w : World} {e o n cap : Nat} {xs : List Value} {p : Addr} (h : w.ownsRow 0 e 1 (.slice (some ⟨o, 0, none⟩) n cap) n xs) (hp : p.block ≠ o) (u : Value) : (w.setCell p u).ownsRow 0 e 1 (.slice (some ⟨o, 0, none⟩) n cap) n xs :=
  World.ownsRow.kept (row := some p.block) h ⟨rfl, rfl, rfl, by simp, fun j _ hj => heap_setCell_other _ _ j _ (fun e => hj (by simp [e]))⟩ (.inr (by simpa [Value.ownBlock] using fun e => hp e.symm))

theorem inc_ne (x : Nat) (h : x < 256) (h2 : x ≠ 255) : ((((UInt8.ofNat x + 1 : UInt8)).toNat : Int) == 0) = false := by
  rw [beq_eq_false_iff_ne, UInt8.toNat_add, UInt8.toNat_ofNat']; simp; omega

def Did (P : World → Prop) (e : Ending) (w' : World) : Prop := e = .returned (.tuple #[]) ∧ P w'

set_option maxRecDepth 100000 in
set_option maxHeartbeats 1000000 in
theorem add_any (g o cap : Nat) (s : Rc.St) (n : Nat) (w : World) (hE : EncAt w g o cap s) (hn : n < 4294967296) (hk : 1 + s.k ≤ 9223372036854775807) :
    Calls Try.prog 133 #[.pointer (some ⟨g, 0, none⟩), .int .u32 n] w (Did fun w' => EncAt w' g o cap ⟨s.k, s.v + n, s.r⟩ ∧ Only [g, o] w w') := by
  have c0 : w.cell? ⟨g, 0, none⟩ = some (.int .u32 ((s.v % 4294967296 : Nat) : Int)) := by rw [cell_of_row _ _ _ _ _ _ hE.blk]; rfl
  have f0 : w.frozen? ⟨g, 0, none⟩ = false := frozen_of_row _ _ _ _ _ hE.blk
  have hgl : g < w.heap.size := block_lt_of_cell c0
  generalize hlow : s.v % 4294967296 = low at *
  have hll : low < 4294967296 := by omega
  have HLOW := Lib.hid hlow
  clear hlow
  by_cases hcar : low + n < 4294967296
  · have hq : ((low : Int) + (n : Int)) / 4294967296 = 0 := by omega
    have hr : ((low : Int) + (n : Int)) % 4294967296 = (((low + n : Nat)) : Int) := by omega
    go_enter Try.func133, Try.ntmps133
    go_wp2_with fail
    refine bodyPost_ret (results_none rfl _ _ _) rfl ⟨rfl, ?_, ?_⟩
    · refine ⟨?_, ?_, hE.ne⟩
      · rw [Below.heap_alloc _ _ _ (by simpa using hgl), blk_set0 hE.blk]
        have e1 : (s.v + n) % 4294967296 = low + n := by have := HLOW.out; omega
        show some (Obj.cells #[.int .u32 ((low : Int) + (n : Int)), _, _] _ _) = some (Obj.cells #[.int .u32 (((s.v + n) % 4294967296 : Nat) : Int), _, _] _ _)
        rw [e1]; rfl
      · have e2 : (s.v + n) / 4294967296 = s.v / 4294967296 := by have := HLOW.out; omega
        show World.ownsRow _ 0 _ 1 _ _ ((Rc.be (1 + s.k) ((s.v + n) / 4294967296)).map B8)
        rw [e2]
        exact World.ownsRow.alloc (own_other hE.own hE.ne _) _
    · exact ((Only.refl _ _).setCell (by simp) _).alloc _
  · obtain ⟨lo, hlo⟩ : ∃ lo, low + n = lo + 4294967296 := ⟨low + n - 4294967296, by omega⟩
    have hq : ((low : Int) + (n : Int)) / 4294967296 = 1 := by omega
    have hr : ((low : Int) + (n : Int)) % 4294967296 = (lo : Int) := by omega
    have c2 : w.cell? ⟨g, 2, none⟩ = some (.slice (some ⟨o, 0, none⟩) (1 + s.k) cap) := by rw [cell_of_row _ _ _ _ _ _ hE.blk]; rfl
    have hol : o < w.heap.size := by
      have := World.ownsRow.lt hE.own o rfl
      exact this.2
    have hne := hE.ne
    have c2' : (w.setCell ⟨g, 0, none⟩ (.int .u32 lo)).cell? ⟨g, 2, none⟩ = some (.slice (some ⟨o, 0, none⟩) (1 + s.k) cap) := (World.cell?_setCell_other _ _ _ _ (by simp)).trans c2
    have hk1 : (1 : Int) ≤ ((1 + s.k : Nat) : Int) := by omega
    have hown := hE.own
    generalize hmm : 1 + s.k = m at *
    have HM := Lib.hid hmm
    have HLO := Lib.hid hlo
    clear hmm hlo
    go_enter Try.func133, Try.ntmps133
    go_wp2_with fail
    rw [hr]
    have hblk1 : ((w.setCell ⟨g, 0, none⟩ (.int .u32 lo)).alloc (.cells #[.pointer (some ⟨g, 0, none⟩)] 130)).heap[g]? = some (.cells #[.int .u32 lo, .int .u32 ((s.r : Nat) : Int), .slice (some ⟨o, 0, none⟩) m cap] 148 (0, 0)) := by
      rw [Below.heap_alloc _ _ _ (by simpa using hgl)]
      have hb := hE.blk
      rw [HM.out] at hb
      exact blk_set0 hb _
    have hq1 : ((w.setCell ⟨g, 0, none⟩ (.int .u32 lo)).alloc (.cells #[.pointer (some ⟨g, 0, none⟩)] 130)).heap[w.heap.size]? = some (.cells #[.pointer (some ⟨g, 0, none⟩)] 130 (0, 0)) := by
      have := heap_alloc_new (w.setCell ⟨g, 0, none⟩ (.int .u32 lo)) (.cells #[.pointer (some ⟨g, 0, none⟩)] 130)
      simpa using this
    have hown1 : ((w.setCell ⟨g, 0, none⟩ (.int .u32 lo)).alloc (.cells #[.pointer (some ⟨g, 0, none⟩)] 130)).ownsRow 0 5 1 (.slice (some ⟨o, 0, none⟩) m cap) m ((Rc.rolled m 0 (s.v / 4294967296)).map B8) := by
      rw [Rc.rolled_zero]; exact World.ownsRow.alloc (own_other hown hne _) _
    have hon1 : Only [g, o] w ((w.setCell ⟨g, 0, none⟩ (.int .u32 lo)).alloc (.cells #[.pointer (some ⟨g, 0, none⟩)] 130)) := ((Only.refl _ _).setCell (by simp) _).alloc _
    generalize (w.setCell ⟨g, 0, none⟩ (.int .u32 lo)).alloc (.cells #[.pointer (some ⟨g, 0, none⟩)] 130) = w1 at *
    generalize hQ : w.heap.size = q at *
    have hqg : g < q := hgl
    have hqo : o < q := hol
    have HQ := Lib.hid hQ
    have hdone : ∀ w', w'.heap[g]? = some (.cells #[.int .u32 lo, .int .u32 ((s.r : Nat) : Int), .slice (some ⟨o, 0, none⟩) m cap] 148 (0, 0)) → w'.ownsRow 0 5 1 (.slice (some ⟨o, 0, none⟩) m cap) m ((Rc.be m (s.v / 4294967296 + 1)).map B8) → EncAt w' g o cap ⟨s.k, s.v + n, s.r⟩ := by
      intro w' h1 h2
      have e1 : (s.v + n) % 4294967296 = lo := by have := HLOW.out; have := HLO.out; omega
      have e2 : (s.v + n) / 4294967296 = s.v / 4294967296 + 1 := by have := HLOW.out; have := HLO.out; omega
      refine ⟨?_, ?_, hne⟩
      · show w'.heap[g]? = some (.cells #[.int .u32 (((s.v + n) % 4294967296 : Nat) : Int), .int .u32 ((s.r : Nat) : Int), .slice (some ⟨o, 0, none⟩) (1 + s.k) cap] _ (0, 0))
        rw [e1, HM.out]; exact h1
      · show w'.ownsRow 0 _ 1 (.slice (some ⟨o, 0, none⟩) (1 + s.k) cap) (1 + s.k) ((Rc.be (1 + s.k) ((s.v + n) / 4294967296)).map B8)
        rw [e2, HM.out]; exact h2
    have HDONE := Lib.hid hdone
    clear hdone hr hq c0 c2 c2' f0 hE hown hcar hQ hgl hol
    generalize s.v / 4294967296 = V at *
    go_loopw [6] (fun i wr => ∃ t : Nat, t ≤ m ∧ i = .int .i64 ((m : Int) - 1 - (t : Int)) ∧ Hid (V % 256 ^ t = 256 ^ t - 1) ∧ wr.heap[g]? = some (.cells #[.int .u32 lo, .int .u32 ((s.r : Nat) : Int), .slice (some ⟨o, 0, none⟩) m cap] 148 (0, 0)) ∧ wr.heap[q]? = some (.cells #[.pointer (some ⟨g, 0, none⟩)] 130 (0, 0)) ∧ wr.ownsRow 0 5 1 (.slice (some ⟨o, 0, none⟩) m cap) m ((Rc.rolled m t V).map B8) ∧ Only [g, o] w wr) (fun i _ => (intOf i + 1).toNat)
    case atStart => exact ⟨0, by omega, by go_num, by simp [Hid, Nat.mod_one], hblk1, hq1, hown1, hon1⟩
    case round =>
      clear hblk1 hq1 hown1 hon1
      obtain ⟨t, ht, rfl, hall, hblk, hqb, hown, hon⟩ := hrel
      by_cases hlt : t < m
      · obtain ⟨j, hj⟩ : ∃ j : Nat, j = m - 1 - t := ⟨_, rfl⟩
        have hji : (m : Int) - 1 - (t : Int) = (j : Int) := by omega
        have hjm : j < m := by omega
        have cq : wr.cell? ⟨q, 0, none⟩ = some (.pointer (some ⟨g, 0, none⟩)) := by rw [cell_of_row _ _ _ _ _ _ hqb]; rfl
        have cg : wr.cell? ⟨g, 2, none⟩ = some (.slice (some ⟨o, 0, none⟩) m cap) := by rw [cell_of_row _ _ _ _ _ _ hblk]; rfl
        have co := hown.cellAt j (by omega)
        have fo := hown.frozenAt j
        rw [List.getElem?_map, hj, Rc.rolled_get m t V hlt, ← hj] at co
        simp only [Option.map] at co
        obtain ⟨hs1, hs2⟩ := hown.stored j (B8 (UInt8.ofNat (V / 256 ^ t % 256) + 1))
        rw [← List.map_set] at hs1
        have hon' : Only [g, o] w (wr.setCell ⟨o, j, none⟩ (B8 (UInt8.ofNat (V / 256 ^ t % 256) + 1))) := hon.setCell (by simp) _
        have hblk' : (wr.setCell ⟨o, j, none⟩ (B8 (UInt8.ofNat (V / 256 ^ t % 256) + 1))).heap[g]? = some (.cells #[.int .u32 lo, .int .u32 ((s.r : Nat) : Int), .slice (some ⟨o, 0, none⟩) m cap] 148 (0, 0)) := (heap_setCell_other _ _ _ _ hne).trans hblk
        have hqb' : (wr.setCell ⟨o, j, none⟩ (B8 (UInt8.ofNat (V / 256 ^ t % 256) + 1))).heap[q]? = some (.cells #[.pointer (some ⟨g, 0, none⟩)] 130 (0, 0)) := (heap_setCell_other _ _ _ _ (by simp; omega)).trans hqb
        have hcall := Lib.hid (carries_any j q g o m cap (UInt8.ofNat (V / 256 ^ t % 256)) wr hjm hk (by omega) hne cq cg co fo)
        have hpos : (0 : Int) ≤ (j : Int) := by omega
        by_cases h255 : V / 256 ^ t % 256 = 255
        · have hz : UInt8.ofNat (V / 256 ^ t % 256) + 1 = 0 := by rw [h255]; decide
          rw [hz, hj, Rc.rolled_next m t V hlt] at hs1
          rw [hz] at hcall hon' hblk' hqb'
          have HN := Lib.hid (Rc.all_next t V hall.out h255)
          have HJ := Lib.hid hj
          rw [← hj] at hs1
          clear hz hs2 co cq cg fo hj h255
          rw [hji]
          go_wp2_with fail
          refine hcall.out.mono ?_
          rintro e w' ⟨rfl, rfl⟩
          go_wp2_with fail
          go_roundw
          case rel => exact ⟨t + 1, by omega, congrArg (Value.int .i64) (by omega), HN, hblk', hqb', hs1, hon'⟩
          case measure => simp [intOf] <;> omega
        · have hx := inc_ne (V / 256 ^ t % 256) (Nat.mod_lt _ (by omega)) h255
          rw [hj, Rc.rolled_stop m t V hlt hall.out h255, ← hj] at hs1
          rw [hx] at hcall
          generalize UInt8.ofNat (V / 256 ^ t % 256) + 1 = x at *
          clear hs2 co cq cg fo hj h255 hx
          rw [hji]
          go_wp2_with fail
          refine hcall.out.mono ?_
          rintro e w' ⟨rfl, rfl⟩
          go_wp2_with fail
          go_end0
          exact ⟨rfl, HDONE.out _ hblk' hs1, hon'⟩
      · obtain rfl : t = m := by omega
        rw [Rc.rolled_end t V hall.out] at hown
        have hneg : (t : Int) - 1 - (t : Int) = -1 := by omega
        rw [hneg]
        go_wp2_with fail
        go_end0
        exact ⟨rfl, HDONE.out _ hblk hown, hon⟩
end Go.Proofs.Ytkckjjchfccdjaa
