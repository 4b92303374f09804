/- Several texts in one: RcMath, RcEnc, RcAdd, RcShift, RcBit, RcMath2, RcPlain, RcKept. -/
import Derived.Test.YtklkboplkobhgaaGreatBase
import Derived.BigRegion
import Derived.Deep.RegionLaw
import Derived.Deep.LoopGhost
import Derived.Deep.DeepCutAuto
/- Plain mathematics of the range coder: numbers as bytes, the most significant one first; the coder's state. -/
namespace Go.Proofs.YtklkboplkobhgaaGreat.Rc

/-- n bytes of a number, the most significant one first. -/
def be : Nat → Nat → List UInt8
  | 0, _ => []
  | n + 1, v => be n (v / 256) ++ [UInt8.ofNat (v % 256)]

theorem be_length (n v : Nat) : (be n v).length = n := by
  induction n generalizing v with
  | zero => rfl
  | succ n ih => simp [be, ih]

theorem be_mod (n v : Nat) : be n (v % 256 ^ n) = be n v := by
  induction n generalizing v with
  | zero => rfl
  | succ n ih =>
    simp only [be]
    have h1 : v % 256 ^ (n + 1) / 256 = v / 256 % 256 ^ n := by
      rw [Nat.pow_succ, Nat.mul_comm, Nat.mod_mul_right_div_self]
    have h2 : v % 256 ^ (n + 1) % 256 = v % 256 := by
      rw [Nat.pow_succ, Nat.mod_mul_left_mod]
    rw [h1, h2, ih]

theorem be_add (m n v : Nat) : be (m + n) v = be m (v / 256 ^ n) ++ be n v := by
  induction n generalizing v with
  | zero => simp [be]
  | succ n ih =>
    rw [← Nat.add_assoc]
    simp only [be]
    rw [ih, ← List.append_assoc]
    congr 2
    rw [Nat.div_div_eq_div_mul, Nat.pow_succ, Nat.mul_comm]

theorem be_zero (n : Nat) : be n 0 = List.replicate n 0 := by
  induction n with
  | zero => rfl
  | succ n ih => simp only [be]; rw [Nat.zero_div, ih, List.replicate_succ', Nat.zero_mod]; rfl

/-- A number that is small enough has a leading 0. -/
theorem be_lead (n v : Nat) (h : v < 256 ^ n) : be (1 + n) v = 0 :: be n v := by
  rw [be_add, Nat.div_eq_of_lt h]; rfl

/-- The i-th byte. -/
theorem be_get (n v i : Nat) (h : i < n) : (be n v)[i]'(by rw [be_length]; exact h) = UInt8.ofNat (v / 256 ^ (n - 1 - i) % 256) := by
  induction n generalizing v with
  | zero => omega
  | succ n ih =>
    simp only [be]
    by_cases hi : i < n
    · rw [List.getElem_append_left (by rw [be_length]; exact hi), ih _ hi, Nat.div_div_eq_div_mul]
      congr 3
      rw [show n + 1 - 1 - i = (n - 1 - i) + 1 by omega, Nat.pow_succ, Nat.mul_comm]
    · obtain rfl : i = n := by omega
      rw [List.getElem_append_right (by rw [be_length]; omega)]
      simp [be_length]

/-- The coder: so many multiplications, Low, Range. -/
structure St where
  k : Nat
  v : Nat
  r : Nat

def St.fits (s : St) : Prop := s.v + s.r ≤ 256 ^ (4 + s.k) ∧ s.r < 4294967296
def St.ok (s : St) : Prop := s.fits ∧ 16777216 ≤ s.r

/-- Both are multiplied once. -/
def St.up (s : St) : St := ⟨s.k + 1, s.v * 256, s.r * 256⟩
/-- As long as Range is small (at most n times). -/
def St.scale : Nat → St → St
  | 0, s => s
  | n + 1, s => if s.r < 16777216 then St.scale n s.up else s

theorem St.up_fits (s : St) (h : s.fits) (hr : s.r < 16777216) : s.up.fits := by
  refine ⟨?_, ?_⟩
  · show s.v * 256 + s.r * 256 ≤ 256 ^ (4 + (s.k + 1))
    rw [← Nat.add_assoc 4, Nat.pow_succ, ← Nat.add_mul]
    exact Nat.mul_le_mul_right _ h.1
  · show s.r * 256 < 4294967296
    omega

/-- A probability that counts. -/
def fair (c : Nat) : Nat := if c < 1 ∨ 2048 ≤ c then 1024 else c
theorem fair_bounds (c : Nat) : 1 ≤ fair c ∧ fair c ≤ 2047 := by unfold fair; split <;> omega
/-- The probability behind a bit. -/
def next (p : Nat) (one : Bool) : Nat := if one then p - p / 32 else p + (2048 - p) / 32

/-- Half of the work of a bit: the interval is chosen. -/
def St.pick (s : St) (p : Nat) (one : Bool) : St := if one then ⟨s.k, s.v + s.r / 2048 * p, s.r - s.r / 2048 * p⟩ else ⟨s.k, s.v, s.r / 2048 * p⟩
theorem St.pick_fits (s : St) (p : Nat) (one : Bool) (h : s.ok) (h1 : 1 ≤ p) (h2 : p ≤ 2047) : (s.pick p one).fits ∧ 8192 ≤ (s.pick p one).r := by
  have hb : s.r / 2048 * p ≤ s.r / 2048 * 2047 := Nat.mul_le_mul_left _ h2
  have hb1 : s.r / 2048 * 1 ≤ s.r / 2048 * p := Nat.mul_le_mul_left _ h1
  obtain ⟨⟨hf1, hf2⟩, hr⟩ := h
  unfold St.pick St.fits
  cases one
  · simp only [Bool.false_eq_true, if_false]; omega
  · simp only [if_true]; omega

/-- The bytes of V while a carry goes up through t of them. -/
def rolled (m t V : Nat) : List UInt8 := be (m - t) (V / 256 ^ t) ++ List.replicate t 0
theorem rolled_zero (m V : Nat) : rolled m 0 V = be m V := by simp [rolled]
theorem rolled_split (m t V : Nat) (h : t < m) : rolled m t V = be (m - (t + 1)) (V / 256 ^ (t + 1)) ++ (UInt8.ofNat (V / 256 ^ t % 256) :: List.replicate t 0) := by
  unfold rolled
  obtain ⟨j, hj⟩ : ∃ j, m - t = j + 1 := ⟨m - t - 1, by omega⟩
  rw [hj, show m - (t + 1) = j by omega, be, Nat.div_div_eq_div_mul, Nat.pow_succ, List.append_assoc]; rfl
theorem rolled_length (m t V : Nat) (h : t ≤ m) : (rolled m t V).length = m := by
  unfold rolled; rw [List.length_append, be_length, List.length_replicate]; omega
theorem rolled_get (m t V : Nat) (h : t < m) : (rolled m t V)[m - 1 - t]? = some (UInt8.ofNat (V / 256 ^ t % 256)) := by
  rw [rolled_split m t V h, List.getElem?_append_right (by rw [be_length]; omega), be_length, show m - 1 - t - (m - (t + 1)) = 0 by omega]; rfl
theorem rolled_set (m t V : Nat) (h : t < m) (x : UInt8) : (rolled m t V).set (m - 1 - t) x = be (m - (t + 1)) (V / 256 ^ (t + 1)) ++ (x :: List.replicate t 0) := by
  rw [rolled_split m t V h, List.set_append_right _ _ (by rw [be_length]; omega), be_length, show m - 1 - t - (m - (t + 1)) = 0 by omega]; rfl
theorem rolled_next (m t V : Nat) (h : t < m) : (rolled m t V).set (m - 1 - t) 0 = rolled m (t + 1) V := by
  rw [rolled_set m t V h]; unfold rolled; rw [List.replicate_succ]
theorem all_next (t V : Nat) (h : V % 256 ^ t = 256 ^ t - 1) (h2 : V / 256 ^ t % 256 = 255) : V % 256 ^ (t + 1) = 256 ^ (t + 1) - 1 := by
  have hp : 0 < 256 ^ t := Nat.pos_of_ne_zero (by simp)
  rw [Nat.pow_succ, Nat.mod_mul, h, h2]; omega
theorem succ_div (t V : Nat) (h : V % 256 ^ t = 256 ^ t - 1) : V + 1 = (V / 256 ^ t + 1) * 256 ^ t := by
  have hp : 0 < 256 ^ t := Nat.pos_of_ne_zero (by simp)
  have := Nat.div_add_mod V (256 ^ t)
  rw [Nat.add_mul, Nat.mul_comm (V / 256 ^ t)]; omega
theorem rolled_stop (m t V : Nat) (h : t < m) (hv : V % 256 ^ t = 256 ^ t - 1) (h2 : V / 256 ^ t % 256 ≠ 255) :
    (rolled m t V).set (m - 1 - t) (UInt8.ofNat (V / 256 ^ t % 256) + 1) = be m (V + 1) := by
  have hp : 0 < 256 ^ t := Nat.pos_of_ne_zero (by simp)
  rw [rolled_set m t V h]
  have e1 : be m (V + 1) = be (m - t) (V / 256 ^ t + 1) ++ List.replicate t 0 := by
    conv => lhs; rw [show m = (m - t) + t by omega]
    rw [be_add, succ_div t V hv, Nat.mul_div_cancel _ hp]
    congr 1
    rw [← be_mod, Nat.mul_mod_left, be_zero]
  rw [e1]
  obtain ⟨j, hj⟩ : ∃ j, m - t = j + 1 := ⟨m - t - 1, by omega⟩
  rw [hj, show m - (t + 1) = j by omega, be]
  have e2 : (V / 256 ^ t + 1) / 256 = V / 256 ^ (t + 1) := by rw [Nat.pow_succ, ← Nat.div_div_eq_div_mul]; omega
  have e3 : UInt8.ofNat ((V / 256 ^ t + 1) % 256) = UInt8.ofNat (V / 256 ^ t % 256) + 1 := by
    apply UInt8.toNat_inj.1
    rw [UInt8.toNat_add, UInt8.toNat_ofNat', UInt8.toNat_ofNat']
    simp
  rw [e2, e3, List.append_assoc]; rfl
theorem rolled_end (m V : Nat) (hv : V % 256 ^ m = 256 ^ m - 1) : rolled m m V = be m (V + 1) := by
  unfold rolled
  rw [Nat.sub_self, be, List.nil_append, ← be_mod, succ_div m V hv, Nat.mul_mod_left, be_zero]
end Go.Proofs.YtklkboplkobhgaaGreat.Rc

/- The walks over rcenc's coder. -/
namespace Go.Proofs.YtklkboplkobhgaaGreat
set_option maxRecDepth 100000
open Go.RowKit

/-- Only the blocks of a list, and new ones, have turned. -/
structure Only (X : List Nat) (w w' : World) : Prop where
  os : w'.os = w.os
  tape : w'.tape = w.tape
  output : w'.output = w.output
  size : w.heap.size ≤ w'.heap.size
  block : ∀ i, i < w.heap.size → i ∉ X → w'.heap[i]? = w.heap[i]?
theorem Only.refl (X : List Nat) (w : World) : Only X w w := ⟨rfl, rfl, rfl, Nat.le_refl _, fun _ _ _ => rfl⟩
theorem Only.trans {X Y : List Nat} {a b c : World} (h : Only X a b) (k : Only Y b c) (hY : ∀ i ∈ Y, i ∈ X ∨ a.heap.size ≤ i) : Only X a c :=
  ⟨k.os.trans h.os, k.tape.trans h.tape, k.output.trans h.output, Nat.le_trans h.size k.size, fun i hi hX =>
    (k.block i (Nat.lt_of_lt_of_le hi h.size) (fun hm => by rcases hY i hm with h1 | h1; exact hX h1; omega)).trans (h.block i hi hX)⟩
theorem Only.alloc {X : List Nat} {a b : World} (h : Only X a b) (o : Obj) : Only X a (b.alloc o) :=
  h.trans (Y := []) ⟨rfl, rfl, rfl, by simp, fun i hi _ => Below.heap_alloc b o i hi⟩ (by simp)
theorem Only.setCell {X : List Nat} {a b : World} (h : Only X a b) {p : Addr} (hp : p.block ∈ X ∨ a.heap.size ≤ p.block) (u : Value) : Only X a (b.setCell p u) :=
  h.trans (Y := [p.block]) ⟨rfl, rfl, rfl, by simp, fun i _ hm => Below.heap_setCell b p u i (by simpa using hm)⟩ (by simpa using hp)
theorem Only.drew {X : List Nat} {a b : World} (h : Only X a b) : Only X a b.drew := ⟨h.os, h.tape, h.output, h.size, h.block⟩
theorem Only.grown {X : List Nat} {a b c : World} (h : Only X a b) {o : Nat} (hg : b.grownBy c (some o)) (ho : o ∈ X ∨ a.heap.size ≤ o) : Only X a c :=
  h.trans (Y := [o]) ⟨hg.os, hg.tape, hg.output, hg.size, fun i hi hm => hg.block i hi (by simpa using hm)⟩ (by simpa using ho)
theorem Only.below {X : List Nat} {a b : World} {B : Nat} (h : Only X a b) (hB : B ≤ a.heap.size) (hX : ∀ i ∈ X, B ≤ i) : Below B a b :=
  ⟨h.os, h.tape, h.output, h.size, fun i hi => h.block i (by omega) (fun hm => by have := hX i hm; omega)⟩

/-- The coder in memory: its struct in block g, its bytes in block o. -/
structure EncAt (w : World) (g o cap : Nat) (s : Rc.St) : Prop where
  blk : w.heap[g]? = some (.cells #[.int .u32 ((s.v % 4294967296 : Nat) : Int), .int .u32 ((s.r : Nat) : Int), .slice (some ⟨o, 0, none⟩) (1 + s.k) cap] 127 (0, 0))
  own : w.ownsRow 0 5 1 (.slice (some ⟨o, 0, none⟩) (1 + s.k) cap) (1 + s.k) ((Rc.be (1 + s.k) (s.v / 4294967296)).map B8)
  ne : g ≠ o

set_option maxHeartbeats 400000 in
theorem valid_any (c : BitVec 16) (w : World) : Calls Tryz.prog 121 #[.int .u16 c.toNat] w fun e w' => e = .returned (.int .u16 (Rc.fair c.toNat : Nat)) ∧ w = w' := by
  have hc := c.isLt
  by_cases h1 : c.toNat < 1
  · have hf : Rc.fair c.toNat = 1024 := by unfold Rc.fair; rw [if_pos (.inl h1)]
    rw [hf]
    have h1' : (c.toNat : Int) < 1 := by omega
    go_enter Tryz.func121, Tryz.ntmps121
    go_wp2_with fail
    go_ret
    exact ⟨rfl, rfl⟩
  · by_cases h2 : 2048 ≤ c.toNat
    · have hf : Rc.fair c.toNat = 1024 := by unfold Rc.fair; rw [if_pos (.inr h2)]
      rw [hf]
      have h1' : ¬ (c.toNat : Int) < 1 := by omega
      have h2' : (2048 : Int) ≤ c.toNat := by omega
      go_enter Tryz.func121, Tryz.ntmps121
      go_wp2_with fail
      go_ret
      exact ⟨rfl, rfl⟩
    · have hf : Rc.fair c.toNat = c.toNat := by unfold Rc.fair; rw [if_neg (by omega)]
      rw [hf]
      have h1' : ¬ (c.toNat : Int) < 1 := by omega
      have h2' : ¬ (2048 : Int) ≤ c.toNat := by omega
      go_enter Tryz.func121, Tryz.ntmps121
      go_wp2_with fail
      go_ret
      exact ⟨rfl, rfl⟩

def bitI (one : Bool) : Int := if one then 1 else 0
set_option maxHeartbeats 400000 in
theorem moved_any (p : Nat) (one : Bool) (w : World) (h1 : 1 ≤ p) (h2 : p ≤ 2047) : Calls Tryz.prog 122 #[.int .u16 p, .int .i64 (bitI one)] w fun e w' => e = .returned (.int .u16 (Rc.next p one : Nat)) ∧ w = w' := by
  cases one
  · have hn : ((Rc.next p false : Nat) : Int) = (p : Int) + (2048 - (p : Int)) / 32 := by simp only [Rc.next, Bool.false_eq_true, if_false]; omega
    have HN := Lib.hid hn
    clear hn
    unfold bitI
    simp only [Bool.false_eq_true, if_false]
    go_enter Tryz.func122, Tryz.ntmps122
    go_wp2_with fail
    go_ret
    exact ⟨congrArg (fun n : Int => Ending.returned (Value.int .u16 n)) HN.out.symm, rfl⟩
  · have hn : ((Rc.next p true : Nat) : Int) = (p : Int) - (p : Int) / 32 := by simp only [Rc.next, if_true]; omega
    have HN := Lib.hid hn
    clear hn
    unfold bitI
    simp only [if_true]
    go_enter Tryz.func122, Tryz.ntmps122
    go_wp2_with fail
    go_ret
    exact ⟨congrArg (fun n : Int => Ending.returned (Value.int .u16 n)) HN.out.symm, rfl⟩
end Go.Proofs.YtklkboplkobhgaaGreat

/- The walks over the coder's add and its function literal. -/
namespace Go.Proofs.YtklkboplkobhgaaGreat
set_option maxRecDepth 100000
open Go.RowKit

theorem inc_u8 (b : UInt8) : ((b.toNat : Int) + 1) % 256 = ((b + 1).toNat : Int) := by
  rw [UInt8.toNat_add]; simp

set_option maxHeartbeats 400000 in
theorem carries_any (i q g o n cap : Nat) (b : UInt8) (w : World) (hi : i < n) (_hn : n ≤ 9223372036854775807) (hqo : q ≠ o) (hgo : g ≠ o)
    (cq : w.cell? ⟨q, 0, none⟩ = some (.pointer (some ⟨g, 0, none⟩))) (cg : w.cell? ⟨g, 2, none⟩ = some (.slice (some ⟨o, 0, none⟩) n cap))
    (co : w.cell? ⟨o, i, none⟩ = some (.int .u8 (b.toNat : Nat))) (fo : w.frozen? ⟨o, i, none⟩ = false) :
    Calls Tryz.prog 124 #[.int .i64 i, .pointer (some ⟨q, 0, none⟩)] w fun e w' => e = .returned (.bool (((b + 1).toNat : Int) == 0)) ∧ w' = w.setCell ⟨o, i, none⟩ (B8 (b + 1)) := by
  have hinc := inc_u8 b
  have hb := b.toNat_lt
  generalize hs : b + 1 = s at *
  have HS := Lib.hid hs; clear hs
  have e1 : (⟨q, 0, none⟩ : Addr) ≠ ⟨o, i, none⟩ := fun e => hqo (congrArg Addr.block e)
  have e2 : (⟨g, 2, none⟩ : Addr) ≠ ⟨o, i, none⟩ := fun e => hgo (congrArg Addr.block e)
  have d1 : (w.setCell ⟨o, i, none⟩ (B8 s)).cell? ⟨q, 0, none⟩ = some (.pointer (some ⟨g, 0, none⟩)) := (World.cell?_setCell_other _ _ _ _ (fun e => e1 e.symm)).trans cq
  have d2 : (w.setCell ⟨o, i, none⟩ (B8 s)).cell? ⟨g, 2, none⟩ = some (.slice (some ⟨o, 0, none⟩) n cap) := (World.cell?_setCell_other _ _ _ _ (fun e => e2 e.symm)).trans cg
  go_enter Tryz.func124, Tryz.ntmps124
  go_wp2_with fail
  go_ret
  exact ⟨rfl, rfl⟩

theorem blk_set0 {w : World} {g : Nat} {a b c : Value} {t : TypeId} (h : w.heap[g]? = some (.cells #[a, b, c] t (0, 0))) (u : Value) : (w.setCell ⟨g, 0, none⟩ u).heap[g]? = some (.cells #[u, b, c] t (0, 0)) := by
  rw [heap_setCell_same w g 0 _ t u h]; rfl
theorem blk_set1 {w : World} {g : Nat} {a b c : Value} {t : TypeId} (h : w.heap[g]? = some (.cells #[a, b, c] t (0, 0))) (u : Value) : (w.setCell ⟨g, 1, none⟩ u).heap[g]? = some (.cells #[a, u, c] t (0, 0)) := by
  rw [heap_setCell_same w g 1 _ t u h]; rfl
theorem blk_set2 {w : World} {g : Nat} {a b c : Value} {t : TypeId} (h : w.heap[g]? = some (.cells #[a, b, c] t (0, 0))) (u : Value) : (w.setCell ⟨g, 2, none⟩ u).heap[g]? = some (.cells #[a, b, u] t (0, 0)) := by
  rw [heap_setCell_same w g 2 _ t u h]; rfl
theorem own_other {w : World} {e o n cap : Nat} {xs : List Value} {p : Addr} (h : w.ownsRow 0 e 1 (.slice (some ⟨o, 0, none⟩) n cap) n xs) (hp : p.block ≠ o) (u : Value) : (w.setCell p u).ownsRow 0 e 1 (.slice (some ⟨o, 0, none⟩) n cap) n xs :=
  World.ownsRow.kept (row := some p.block) h ⟨rfl, rfl, rfl, by simp, fun j _ hj => heap_setCell_other _ _ j _ (fun e => hj (by simp [e]))⟩ (.inr (by simpa [Value.ownBlock] using fun e => hp e.symm))

theorem inc_ne (x : Nat) (h : x < 256) (h2 : x ≠ 255) : ((((UInt8.ofNat x + 1 : UInt8)).toNat : Int) == 0) = false := by
  rw [beq_eq_false_iff_ne, UInt8.toNat_add, UInt8.toNat_ofNat']; simp; omega

def Did (P : World → Prop) (e : Ending) (w' : World) : Prop := e = .returned (.tuple #[]) ∧ P w'

set_option maxRecDepth 100000 in
set_option maxHeartbeats 1000000 in
theorem add_any (g o cap : Nat) (s : Rc.St) (n : Nat) (w : World) (hE : EncAt w g o cap s) (hn : n < 4294967296) (hk : 1 + s.k ≤ 9223372036854775807) :
    Calls Tryz.prog 123 #[.pointer (some ⟨g, 0, none⟩), .int .u32 n] w (Did fun w' => EncAt w' g o cap ⟨s.k, s.v + n, s.r⟩ ∧ Only [g, o] w w') := by
  have c0 : w.cell? ⟨g, 0, none⟩ = some (.int .u32 ((s.v % 4294967296 : Nat) : Int)) := by rw [cell_of_row _ _ _ _ _ _ hE.blk]; rfl
  have f0 : w.frozen? ⟨g, 0, none⟩ = false := frozen_of_row _ _ _ _ _ hE.blk
  have hgl : g < w.heap.size := block_lt_of_cell c0
  generalize hlow : s.v % 4294967296 = low at *
  have hll : low < 4294967296 := by omega
  have HLOW := Lib.hid hlow
  clear hlow
  by_cases hcar : low + n < 4294967296
  · have hq : ((low : Int) + (n : Int)) / 4294967296 = 0 := by omega
    have hr : ((low : Int) + (n : Int)) % 4294967296 = (((low + n : Nat)) : Int) := by omega
    go_enter Tryz.func123, Tryz.ntmps123
    go_wp2_with fail
    refine bodyPost_ret (results_none rfl _ _ _) rfl ⟨rfl, ?_, ?_⟩
    · refine ⟨?_, ?_, hE.ne⟩
      · rw [Below.heap_alloc _ _ _ (by simpa using hgl), blk_set0 hE.blk]
        have e1 : (s.v + n) % 4294967296 = low + n := by have := HLOW.out; omega
        show some (Obj.cells #[.int .u32 ((low : Int) + (n : Int)), _, _] _ _) = some (Obj.cells #[.int .u32 (((s.v + n) % 4294967296 : Nat) : Int), _, _] _ _)
        rw [e1]; rfl
      · have e2 : (s.v + n) / 4294967296 = s.v / 4294967296 := by have := HLOW.out; omega
        show World.ownsRow _ 0 _ 1 _ _ ((Rc.be (1 + s.k) ((s.v + n) / 4294967296)).map B8)
        rw [e2]
        exact World.ownsRow.alloc (own_other hE.own hE.ne _) _
    · exact ((Only.refl _ _).setCell (by simp) _).alloc _
  · obtain ⟨lo, hlo⟩ : ∃ lo, low + n = lo + 4294967296 := ⟨low + n - 4294967296, by omega⟩
    have hq : ((low : Int) + (n : Int)) / 4294967296 = 1 := by omega
    have hr : ((low : Int) + (n : Int)) % 4294967296 = (lo : Int) := by omega
    have c2 : w.cell? ⟨g, 2, none⟩ = some (.slice (some ⟨o, 0, none⟩) (1 + s.k) cap) := by rw [cell_of_row _ _ _ _ _ _ hE.blk]; rfl
    have hol : o < w.heap.size := by
      have := World.ownsRow.lt hE.own o rfl
      exact this.2
    have hne := hE.ne
    have c2' : (w.setCell ⟨g, 0, none⟩ (.int .u32 lo)).cell? ⟨g, 2, none⟩ = some (.slice (some ⟨o, 0, none⟩) (1 + s.k) cap) := (World.cell?_setCell_other _ _ _ _ (by simp)).trans c2
    have hk1 : (1 : Int) ≤ ((1 + s.k : Nat) : Int) := by omega
    have hown := hE.own
    generalize hmm : 1 + s.k = m at *
    have HM := Lib.hid hmm
    have HLO := Lib.hid hlo
    clear hmm hlo
    go_enter Tryz.func123, Tryz.ntmps123
    go_wp2_with fail
    rw [hr]
    have hblk1 : ((w.setCell ⟨g, 0, none⟩ (.int .u32 lo)).alloc (.cells #[.pointer (some ⟨g, 0, none⟩)] 105)).heap[g]? = some (.cells #[.int .u32 lo, .int .u32 ((s.r : Nat) : Int), .slice (some ⟨o, 0, none⟩) m cap] 127 (0, 0)) := by
      rw [Below.heap_alloc _ _ _ (by simpa using hgl)]
      have hb := hE.blk
      rw [HM.out] at hb
      exact blk_set0 hb _
    have hq1 : ((w.setCell ⟨g, 0, none⟩ (.int .u32 lo)).alloc (.cells #[.pointer (some ⟨g, 0, none⟩)] 105)).heap[w.heap.size]? = some (.cells #[.pointer (some ⟨g, 0, none⟩)] 105 (0, 0)) := by
      have := heap_alloc_new (w.setCell ⟨g, 0, none⟩ (.int .u32 lo)) (.cells #[.pointer (some ⟨g, 0, none⟩)] 105)
      simpa using this
    have hown1 : ((w.setCell ⟨g, 0, none⟩ (.int .u32 lo)).alloc (.cells #[.pointer (some ⟨g, 0, none⟩)] 105)).ownsRow 0 5 1 (.slice (some ⟨o, 0, none⟩) m cap) m ((Rc.rolled m 0 (s.v / 4294967296)).map B8) := by
      rw [Rc.rolled_zero]; exact World.ownsRow.alloc (own_other hown hne _) _
    have hon1 : Only [g, o] w ((w.setCell ⟨g, 0, none⟩ (.int .u32 lo)).alloc (.cells #[.pointer (some ⟨g, 0, none⟩)] 105)) := ((Only.refl _ _).setCell (by simp) _).alloc _
    generalize (w.setCell ⟨g, 0, none⟩ (.int .u32 lo)).alloc (.cells #[.pointer (some ⟨g, 0, none⟩)] 105) = w1 at *
    generalize hQ : w.heap.size = q at *
    have hqg : g < q := hgl
    have hqo : o < q := hol
    have HQ := Lib.hid hQ
    have hdone : ∀ w', w'.heap[g]? = some (.cells #[.int .u32 lo, .int .u32 ((s.r : Nat) : Int), .slice (some ⟨o, 0, none⟩) m cap] 127 (0, 0)) → w'.ownsRow 0 5 1 (.slice (some ⟨o, 0, none⟩) m cap) m ((Rc.be m (s.v / 4294967296 + 1)).map B8) → EncAt w' g o cap ⟨s.k, s.v + n, s.r⟩ := by
      intro w' h1 h2
      have e1 : (s.v + n) % 4294967296 = lo := by have := HLOW.out; have := HLO.out; omega
      have e2 : (s.v + n) / 4294967296 = s.v / 4294967296 + 1 := by have := HLOW.out; have := HLO.out; omega
      refine ⟨?_, ?_, hne⟩
      · show w'.heap[g]? = some (.cells #[.int .u32 (((s.v + n) % 4294967296 : Nat) : Int), .int .u32 ((s.r : Nat) : Int), .slice (some ⟨o, 0, none⟩) (1 + s.k) cap] _ (0, 0))
        rw [e1, HM.out]; exact h1
      · show w'.ownsRow 0 _ 1 (.slice (some ⟨o, 0, none⟩) (1 + s.k) cap) (1 + s.k) ((Rc.be (1 + s.k) ((s.v + n) / 4294967296)).map B8)
        rw [e2, HM.out]; exact h2
    have HDONE := Lib.hid hdone
    clear hdone hr hq c0 c2 c2' f0 hE hown hcar hQ hgl hol
    generalize s.v / 4294967296 = V at *
    go_loopw [6] (fun i wr => ∃ t : Nat, t ≤ m ∧ i = .int .i64 ((m : Int) - 1 - (t : Int)) ∧ Hid (V % 256 ^ t = 256 ^ t - 1) ∧ wr.heap[g]? = some (.cells #[.int .u32 lo, .int .u32 ((s.r : Nat) : Int), .slice (some ⟨o, 0, none⟩) m cap] 127 (0, 0)) ∧ wr.heap[q]? = some (.cells #[.pointer (some ⟨g, 0, none⟩)] 105 (0, 0)) ∧ wr.ownsRow 0 5 1 (.slice (some ⟨o, 0, none⟩) m cap) m ((Rc.rolled m t V).map B8) ∧ Only [g, o] w wr) (fun i _ => (intOf i + 1).toNat)
    case atStart => exact ⟨0, by omega, by go_num, by simp [Hid, Nat.mod_one], hblk1, hq1, hown1, hon1⟩
    case round =>
      clear hblk1 hq1 hown1 hon1
      obtain ⟨t, ht, rfl, hall, hblk, hqb, hown, hon⟩ := hrel
      by_cases hlt : t < m
      · obtain ⟨j, hj⟩ : ∃ j : Nat, j = m - 1 - t := ⟨_, rfl⟩
        have hji : (m : Int) - 1 - (t : Int) = (j : Int) := by omega
        have hjm : j < m := by omega
        have cq : wr.cell? ⟨q, 0, none⟩ = some (.pointer (some ⟨g, 0, none⟩)) := by rw [cell_of_row _ _ _ _ _ _ hqb]; rfl
        have cg : wr.cell? ⟨g, 2, none⟩ = some (.slice (some ⟨o, 0, none⟩) m cap) := by rw [cell_of_row _ _ _ _ _ _ hblk]; rfl
        have co := hown.cellAt j (by omega)
        have fo := hown.frozenAt j
        rw [List.getElem?_map, hj, Rc.rolled_get m t V hlt, ← hj] at co
        simp only [Option.map] at co
        obtain ⟨hs1, hs2⟩ := hown.stored j (B8 (UInt8.ofNat (V / 256 ^ t % 256) + 1))
        rw [← List.map_set] at hs1
        have hon' : Only [g, o] w (wr.setCell ⟨o, j, none⟩ (B8 (UInt8.ofNat (V / 256 ^ t % 256) + 1))) := hon.setCell (by simp) _
        have hblk' : (wr.setCell ⟨o, j, none⟩ (B8 (UInt8.ofNat (V / 256 ^ t % 256) + 1))).heap[g]? = some (.cells #[.int .u32 lo, .int .u32 ((s.r : Nat) : Int), .slice (some ⟨o, 0, none⟩) m cap] 127 (0, 0)) := (heap_setCell_other _ _ _ _ hne).trans hblk
        have hqb' : (wr.setCell ⟨o, j, none⟩ (B8 (UInt8.ofNat (V / 256 ^ t % 256) + 1))).heap[q]? = some (.cells #[.pointer (some ⟨g, 0, none⟩)] 105 (0, 0)) := (heap_setCell_other _ _ _ _ (by simp; omega)).trans hqb
        have hcall := Lib.hid (carries_any j q g o m cap (UInt8.ofNat (V / 256 ^ t % 256)) wr hjm hk (by omega) hne cq cg co fo)
        have hpos : (0 : Int) ≤ (j : Int) := by omega
        by_cases h255 : V / 256 ^ t % 256 = 255
        · have hz : UInt8.ofNat (V / 256 ^ t % 256) + 1 = 0 := by rw [h255]; decide
          rw [hz, hj, Rc.rolled_next m t V hlt] at hs1
          rw [hz] at hcall hon' hblk' hqb'
          have HN := Lib.hid (Rc.all_next t V hall.out h255)
          have HJ := Lib.hid hj
          rw [← hj] at hs1
          clear hz hs2 co cq cg fo hj h255
          rw [hji]
          go_wp2_with fail
          refine hcall.out.mono ?_
          rintro e w' ⟨rfl, rfl⟩
          go_wp2_with fail
          go_roundw
          case rel => exact ⟨t + 1, by omega, congrArg (Value.int .i64) (by omega), HN, hblk', hqb', hs1, hon'⟩
          case measure => simp [intOf] <;> omega
        · have hx := inc_ne (V / 256 ^ t % 256) (Nat.mod_lt _ (by omega)) h255
          rw [hj, Rc.rolled_stop m t V hlt hall.out h255, ← hj] at hs1
          rw [hx] at hcall
          generalize UInt8.ofNat (V / 256 ^ t % 256) + 1 = x at *
          clear hs2 co cq cg fo hj h255 hx
          rw [hji]
          go_wp2_with fail
          refine hcall.out.mono ?_
          rintro e w' ⟨rfl, rfl⟩
          go_wp2_with fail
          go_end0
          exact ⟨rfl, HDONE.out _ hblk' hs1, hon'⟩
      · obtain rfl : t = m := by omega
        rw [Rc.rolled_end t V hall.out] at hown
        have hneg : (t : Int) - 1 - (t : Int) = -1 := by omega
        rw [hneg]
        go_wp2_with fail
        go_end0
        exact ⟨rfl, HDONE.out _ hblk hown, hon⟩
end Go.Proofs.YtklkboplkobhgaaGreat

/- The walk over the coder's shift. -/
namespace Go.Proofs.YtklkboplkobhgaaGreat
set_option maxRecDepth 100000
open Go.RowKit

/-- What shift comes to: the state scaled, its bytes in the old block or a new one. -/
def Shifted (w : World) (g o : Nat) (t : Rc.St) (w' : World) : Prop := ∃ o' cap', EncAt w' g o' cap' t ∧ Only [g, o] w w' ∧ (o' = o ∨ w.heap.size ≤ o')

theorem top_byte (v lw : Nat) (h : v % 4294967296 = lw) : IntKind.u8.wrap ((lw : Int) / 16777216) = ((UInt8.ofNat (v / 16777216 % 256)).toNat : Int) := by
  rw [IntKind.wrap_u8', UInt8.toNat_ofNat']; omega
theorem up_low (v lw : Nat) (h : v % 4294967296 = lw) : ((lw : Int) * 256) % 4294967296 = ((v * 256 % 4294967296 : Nat) : Int) := by omega
theorem up_bytes (k v : Nat) : Rc.be (1 + k) (v / 4294967296) ++ [UInt8.ofNat (v / 16777216 % 256)] = Rc.be (1 + (k + 1)) (v * 256 / 4294967296) := by
  rw [← Nat.add_assoc, Rc.be, show v * 256 / 4294967296 = v / 16777216 by omega, Nat.div_div_eq_div_mul]

theorem cell0_of {w : World} {g : Nat} {a b c : Value} {t : TypeId} {fr : Nat × Nat} (h : w.heap[g]? = some (.cells #[a, b, c] t fr)) : w.cell? ⟨g, 0, none⟩ = some a := by rw [cell_of_row _ _ _ _ _ _ h]; rfl
theorem cell1_of {w : World} {g : Nat} {a b c : Value} {t : TypeId} {fr : Nat × Nat} (h : w.heap[g]? = some (.cells #[a, b, c] t fr)) : w.cell? ⟨g, 1, none⟩ = some b := by rw [cell_of_row _ _ _ _ _ _ h]; rfl
theorem cell2_of {w : World} {g : Nat} {a b c : Value} {t : TypeId} {fr : Nat × Nat} (h : w.heap[g]? = some (.cells #[a, b, c] t fr)) : w.cell? ⟨g, 2, none⟩ = some c := by rw [cell_of_row _ _ _ _ _ _ h]; rfl

set_option maxRecDepth 100000 in
set_option maxHeartbeats 2000000 in
theorem shift_any (N g o cap : Nat) (s : Rc.St) (w : World) (hE : EncAt w g o cap s) (hf : s.fits) (hk : 1 + s.k + N ≤ 140737488355328) (hr : 16777216 ≤ s.r * 256 ^ N) :
    Calls Tryz.prog 120 #[.pointer (some ⟨g, 0, none⟩)] w (Did (Shifted w g o (Rc.St.scale N s))) := by
  obtain ⟨i, hi, hz0, hz1, hz2⟩ := info_parts info8
  go_enter Tryz.func120, Tryz.ntmps120
  go_wp2_with fail
  go_loopg [6] N (fun gk s6 wr => ∃ (o' cap' : Nat) (t : Rc.St), EncAt wr g o' cap' t ∧ t.fits ∧ 1 + t.k + gk ≤ 140737488355328 ∧ Hid (16777216 ≤ t.r * 256 ^ gk) ∧ Rc.St.scale N s = Rc.St.scale gk t ∧ Only [g, o] w wr ∧ (o' = o ∨ w.heap.size ≤ o'))
  case atStart => exact ⟨o, cap, s, hE, hf, hk, hr, rfl, Only.refl _ _, .inl rfl⟩
  case round =>
    obtain ⟨o', cap', t, hT, hft, hkt, hrt, hsc, hon, ho'⟩ := hrel
    have HSC := Lib.hid hsc
    have c0 : wr.cell? ⟨g, 0, none⟩ = some (.int .u32 ((t.v % 4294967296 : Nat) : Int)) := by rw [cell_of_row _ _ _ _ _ _ hT.blk]; rfl
    have c1 : wr.cell? ⟨g, 1, none⟩ = some (.int .u32 ((t.r : Nat) : Int)) := by rw [cell_of_row _ _ _ _ _ _ hT.blk]; rfl
    have c2 : wr.cell? ⟨g, 2, none⟩ = some (.slice (some ⟨o', 0, none⟩) (1 + t.k) cap') := by rw [cell_of_row _ _ _ _ _ _ hT.blk]; rfl
    have f0 : wr.frozen? ⟨g, 0, none⟩ = false := frozen_of_row _ _ _ _ _ hT.blk
    have f1 : wr.frozen? ⟨g, 1, none⟩ = false := frozen_of_row _ _ _ _ _ hT.blk
    have f2 : wr.frozen? ⟨g, 2, none⟩ = false := frozen_of_row _ _ _ _ _ hT.blk
    clear hsc hE
    by_cases hlt : t.r < 16777216
    · have hlt' : (t.r : Int) < 16777216 := by omega
      cases gk with
      | zero => have := hrt.out; simp at this; omega
      | succ gk =>
        generalize hlw : t.v % 4294967296 = lw at *
        have htop := top_byte t.v lw hlw
        have hup := Lib.hid (up_low t.v lw hlw)
        have hll : lw < 4294967296 := by omega
        have HLW := Lib.hid hlw
        clear hlw
        have hub := Lib.hid (up_bytes t.k t.v)
        generalize hx : UInt8.ofNat (t.v / 16777216 % 256) = x at *
        have hgl : g < wr.heap.size := block_lt_of_cell c0
        have hoa := World.ownsRow.alloc hT.own (.cells #[.int .u8 (x.toNat : Nat)] 5)
        have hnews := cell_one_new wr (B8 x) 5
        have h63 : 1 + t.k + 1 ≤ maxLen := by unfold maxLen; omega
        have hby : (1 + t.k + 1) * 1 ≤ 140737488355328 := by omega
        have hbs : 0 ≤ (wr.alloc (.cells #[.int .u8 (x.toNat : Nat)] 5)).drew.heap.size := Nat.zero_le _
        have hHH : (wr.alloc (.cells #[.int .u8 (x.toNat : Nat)] 5)).drew.heap.size = wr.heap.size + 1 := by show (wr.alloc _).heap.size = _; simp
        have HH := Lib.hid hHH
        clear hHH
        have hblkt := hT.blk
        rw [HLW.out] at hblkt
        have hne := hT.ne
        have hbk : ∀ w2 : World, (wr.alloc (.cells #[.int .u8 (x.toNat : Nat)] 5)).drew.grownBy w2 (Value.ownBlock (.slice (some ⟨o', 0, none⟩) (1 + t.k) cap')) → w2.heap[g]? = some (.cells #[.int .u32 (lw : Int), .int .u32 ((t.r : Nat) : Int), .slice (some ⟨o', 0, none⟩) (1 + t.k) cap'] 127 (0, 0)) := by
          intro w2 h
          refine (h.block g ?_ ?_).trans ((Below.heap_alloc wr _ g hgl).trans hblkt)
          · show g < (wr.alloc _).heap.size; simp; omega
          · simpa [Value.ownBlock] using hne
        have HBK := Lib.hid hbk
        clear hbk hblkt
        go_wp2_with fail
        go_region_law (refine step_append_lies (P := Tryz.prog) _ rfl (.tmp 11) (.tmp 18) 22 rfl 0 5 i (.int .u8 0) 1 1 Tryz.underlying22 hi hz0 hz1 hz2 rfl (by decide) (.slice (some ⟨o', 0, none⟩) (1 + t.k) cap') (1 + t.k) _ rfl hoa.drew ⟨wr.heap.size, 0, none⟩ 1 1 [B8 x] rfl rfl hnews (b8_one [x]) (by decide) h63 hby hbs (wr.heap.size + 1) HH.out ?_; intro g2 cap2 w2 hown2 hg2 hat2 hlt2; have hbk2 := HBK.out w2 hg2; have c22 := cell2_of hbk2; have f22 := frozen_of_row w2 g 2 _ _ hbk2)
        all_goals
          have hb3 := blk_set2 hbk2 (.slice (some ⟨g2, 0, none⟩) (1 + t.k + 1) cap2)
          have hng : g ≠ g2 := by
            rcases hat2 with h | h
            · have e : o' = g2 := by simpa [Value.ownBlock] using h
              rw [← e]; exact hne
            · omega
          have hown3 := own_other (p := ⟨g, 2, none⟩) hown2 hng (.slice (some ⟨g2, 0, none⟩) (1 + t.k + 1) cap2)
          have hon2 : Only [g, o] w w2 := by
            refine (hon.alloc (.cells #[.int .u8 (x.toNat : Nat)] 5)).drew.grown hg2 ?_
            rcases ho' with h | h
            · exact .inl (by simp [h])
            · exact .inr h
          have hon3 := hon2.setCell (p := ⟨g, 2, none⟩) (.inl (by simp)) (.slice (some ⟨g2, 0, none⟩) (1 + t.k + 1) cap2)
          have ho2 : g2 = o ∨ w.heap.size ≤ g2 := by
            rcases hat2 with h | h
            · have e : o' = g2 := by simpa [Value.ownBlock] using h
              rw [← e]; exact ho'
            · have := hon.size; exact .inr (by omega)
          generalize w2.setCell ⟨g, 2, none⟩ (.slice (some ⟨g2, 0, none⟩) (1 + t.k + 1) cap2) = w3 at *
          have d0 := cell0_of hb3
          have d1 := cell1_of hb3
          have e0 := frozen_of_row w3 g 0 _ _ hb3
          have e1 := frozen_of_row w3 g 1 _ _ hb3
          have hlast := blk_set1 (blk_set0 hb3 (.int .u32 ((t.v * 256 % 4294967296 : Nat) : Int))) (.int .u32 ((t.r * 256 : Nat) : Int))
          have hown4 := own_other (p := ⟨g, 1, none⟩) (own_other (p := ⟨g, 0, none⟩) hown3 hng (.int .u32 ((t.v * 256 % 4294967296 : Nat) : Int))) hng (.int .u32 ((t.r * 256 : Nat) : Int))
          have hon4 := (hon3.setCell (p := ⟨g, 0, none⟩) (.inl (by simp)) (.int .u32 ((t.v * 256 % 4294967296 : Nat) : Int))).setCell (p := ⟨g, 1, none⟩) (.inl (by simp)) (.int .u32 ((t.r * 256 : Nat) : Int))
          have HL := Lib.hid hlast
          clear hlast hbk2 hg2 hat2 hown2 hon2 c22 f22 hown3 hon3 c0 c1 c2 f0 f1 f2 htop hoa hnews
          go_wp2_with fail
          rw [hup.out, show ((t.r : Int) * 256) = ((t.r * 256 : Nat) : Int) from by omega]
          go_roundg gk
          case measure => omega
          case rel =>
            refine ⟨g2, cap2, t.up, ⟨?_, ?_, hng⟩, t.up_fits hft hlt, by show 1 + (t.k + 1) + gk ≤ _; omega, ?_, ?_, hon4, ho2⟩
            · show _ = some (Obj.cells #[_, _, .slice (some ⟨g2, 0, none⟩) (1 + (t.k + 1)) cap2] _ _)
              rw [← Nat.add_assoc]; exact HL.out
            · show World.ownsRow _ 0 _ 1 (.slice (some ⟨g2, 0, none⟩) (1 + (t.k + 1)) cap2) (1 + (t.k + 1)) ((Rc.be (1 + (t.k + 1)) (t.v * 256 / 4294967296)).map B8)
              rw [← hub.out, List.map_append, ← Nat.add_assoc]; exact hown4
            · show 16777216 ≤ t.r * 256 * 256 ^ gk
              have := hrt.out
              rw [Nat.pow_succ, Nat.mul_comm (256 ^ gk), ← Nat.mul_assoc] at this; exact this
            · rw [HSC.out, Rc.St.scale, if_pos hlt]
    · have hge : ¬ (t.r : Int) < 16777216 := by omega
      go_wp2_with fail
      go_end0
      refine ⟨rfl, o', cap', ?_, hon, ho'⟩
      have hst : Rc.St.scale gk t = t := by
        cases gk with
        | zero => rfl
        | succ gk => rw [Rc.St.scale, if_neg hlt]
      rw [HSC.out, hst]; exact hT
end Go.Proofs.YtklkboplkobhgaaGreat

/- The walk over the coder's Bit, and over New. -/
namespace Go.Proofs.YtklkboplkobhgaaGreat
set_option maxRecDepth 100000
open Go.RowKit

/-- What Bit comes to. -/
def BitDone (w : World) (g o : Nat) (bit : Int) (p : Nat) (t : Rc.St) (e : Ending) (w' : World) : Prop :=
  e = .returned (.tuple #[.int .i64 bit, .int .u16 (p : Nat)]) ∧ Shifted w g o t w'

theorem bound_u32 (r p : Nat) (hr : r < 4294967296) (hp : p ≤ 2047) : (((r : Int) / 2048) * (p : Int)) % 4294967296 = ((r / 2048 * p : Nat) : Int) := by
  have h : r / 2048 * p ≤ r / 2048 * 2047 := Nat.mul_le_mul_left _ hp
  have e : ((r : Int) / 2048) * (p : Int) = ((r / 2048 * p : Nat) : Int) := by simp
  rw [e]; omega

set_option maxRecDepth 100000 in
set_option maxHeartbeats 1000000 in
theorem bit_any (g o cap : Nat) (s : Rc.St) (c : BitVec 16) (bit : Int) (w : World) (hE : EncAt w g o cap s) (hs : s.ok) (hk : 1 + s.k + 2 ≤ 140737488355328) :
    Calls Tryz.prog 118 #[.pointer (some ⟨g, 0, none⟩), .int .u16 c.toNat, .int .i64 bit] w
      (BitDone w g o (bitI (bit != 0)) (Rc.next (Rc.fair c.toNat) (bit != 0)) (Rc.St.scale 2 (s.pick (Rc.fair c.toNat) (bit != 0)))) := by
  obtain ⟨hp1, hp2⟩ := Rc.fair_bounds c.toNat
  have hv := Lib.hid (fun w => valid_any c w)
  generalize Rc.fair c.toNat = p at *
  have hsr := hs.1.2
  have hbd := bound_u32 s.r p hsr hp2
  have hble : s.r / 2048 * p ≤ s.r / 2048 * 2047 := Nat.mul_le_mul_left _ hp2
  generalize hbn : s.r / 2048 * p = bnd at *
  have hblt : bnd < 4294967296 := by omega
  have hbr : bnd ≤ s.r := by omega
  have HBN := Lib.hid hbn
  clear hbn
  have c1 := cell1_of hE.blk
  have f1 := frozen_of_row w g 1 _ _ hE.blk
  by_cases hb : bit = 0
  · subst hb
    obtain ⟨hpf, hpr⟩ := s.pick_fits p false hs hp1 hp2
    have hmv := Lib.hid (fun w => moved_any p false w hp1 hp2)
    have e0 : bitI ((0 : Int) != 0) = 0 := rfl
    rw [e0, show ((0 : Int) != 0) = false from rfl]
    have hpk : s.pick p false = ⟨s.k, s.v, bnd⟩ := by rw [← HBN.out]; rfl
    rw [hpk] at hpf hpr ⊢
    have hE1 : EncAt (w.setCell ⟨g, 1, none⟩ (.int .u32 ((bnd : Nat) : Int))) g o cap ⟨s.k, s.v, bnd⟩ := ⟨blk_set1 hE.blk _, own_other hE.own hE.ne _, hE.ne⟩
    have hsh := Lib.hid (shift_any 2 g o cap ⟨s.k, s.v, bnd⟩ _ hE1 hpf (by show 1 + s.k + 2 ≤ _; exact hk) (by show 16777216 ≤ bnd * 256 ^ 2; have : 8192 ≤ bnd := hpr; omega))
    go_enter Tryz.func118, Tryz.ntmps118
    go_wp2_with fail
    refine (hv.out _).mono ?_
    rintro e w' ⟨rfl, rfl⟩
    go_wp2_with fail
    refine (hmv.out _).mono ?_
    rintro e w' ⟨rfl, rfl⟩
    go_wp2_with fail
    refine hsh.out.mono ?_
    rintro e w1 ⟨rfl, o', cap', hE2, hon, ho⟩
    go_wp2_with fail
    go_ret2
    exact ⟨rfl, o', cap', hE2, ((Only.refl _ _).setCell (p := ⟨g, 1, none⟩) (.inl (by simp)) _).trans hon (by simp), by rcases ho with h | h; exact .inl h; exact .inr (by simpa using h)⟩
  · have hbt : (bit != 0) = true := by rw [bne_iff_ne]; exact hb
    obtain ⟨hpf, hpr⟩ := s.pick_fits p true hs hp1 hp2
    have hmv := Lib.hid (fun w => moved_any p true w hp1 hp2)
    rw [hbt, show bitI true = 1 from rfl]
    have hpk : s.pick p true = ⟨s.k, s.v + bnd, s.r - bnd⟩ := by rw [← HBN.out]; rfl
    rw [hpk] at hpf hpr ⊢
    have hadd := Lib.hid (add_any g o cap s bnd w hE hblt (by omega))
    have hbt0 : (bit == 0) = false := beq_eq_false_iff_ne.2 hb
    have hsub : (s.r : Int) - (bnd : Int) = ((s.r - bnd : Nat) : Int) := by omega
    go_enter Tryz.func118, Tryz.ntmps118
    go_wp2_with fail
    refine (hv.out _).mono ?_
    rintro e w' ⟨rfl, rfl⟩
    go_wp2_with fail
    refine (hmv.out _).mono ?_
    rintro e w' ⟨rfl, rfl⟩
    go_wp2_with fail
    refine hadd.out.mono ?_
    rintro e w1 ⟨rfl, hEa, hona⟩
    have d1 := cell1_of hEa.blk
    have e1 := frozen_of_row w1 g 1 _ _ hEa.blk
    have hE1 : EncAt (w1.setCell ⟨g, 1, none⟩ (.int .u32 ((s.r - bnd : Nat) : Int))) g o cap ⟨s.k, s.v + bnd, s.r - bnd⟩ := ⟨blk_set1 hEa.blk _, own_other hEa.own hEa.ne _, hEa.ne⟩
    have hsh := Lib.hid (shift_any 2 g o cap ⟨s.k, s.v + bnd, s.r - bnd⟩ _ hE1 hpf (by show 1 + s.k + 2 ≤ _; exact hk) (by show 16777216 ≤ (s.r - bnd) * 256 ^ 2; have : 8192 ≤ s.r - bnd := hpr; omega))
    simp only at d1
    go_wp2_with fail
    refine hsh.out.mono ?_
    rintro e w2 ⟨rfl, o', cap', hE2, hon, ho⟩
    go_wp2_with fail
    go_ret2
    have hsz := hona.size
    exact ⟨rfl, o', cap', hE2, (hona.setCell (p := ⟨g, 1, none⟩) (.inl (by simp)) _).trans hon (by simp), by rcases ho with h | h; exact .inl h; exact .inr (by simp at h; omega)⟩

theorem be_one_zero : Rc.be (1 + 0) (0 / 4294967296) = [0] := by decide

/-- The coder at first. -/
def st0 : Rc.St := ⟨0, 0, 4294967295⟩
theorem st0_ok : st0.ok := ⟨⟨by decide, by decide⟩, by decide⟩
def NewDone (w : World) (e : Ending) (w' : World) : Prop := ∃ g o cap, e = .returned (.pointer (some ⟨g, 0, none⟩)) ∧ EncAt w' g o cap st0 ∧ Below w.heap.size w w' ∧ w.heap.size ≤ g ∧ w.heap.size ≤ o

set_option maxRecDepth 100000 in
set_option maxHeartbeats 400000 in
theorem new_any (w : World) : Calls Tryz.prog 36 #[] w (NewDone w) := by
  go_enter Tryz.func36, Tryz.ntmps36
  go_wp2_with fail
  go_ret
  refine ⟨w.heap.size + 1, w.heap.size, 1, rfl, ⟨?_, ?_, by omega⟩, ((Below.refl _ _).alloc (Nat.le_refl _) _).alloc (by simp) _, by omega, Nat.le_refl _⟩
  · have h := heap_alloc_new (w.alloc (.cells #[.int .u8 0] 5)) (.cells #[.int .u32 0, .int .u32 4294967295, .slice (some ⟨w.heap.size, 0, none⟩) 1 1] 127)
    have hsz : (w.alloc (.cells #[.int .u8 0] 5)).heap.size = w.heap.size + 1 := by simp
    rw [hsz] at h
    exact h
  · refine World.ownsRow.alloc ?_ _
    show World.ownsRow _ 0 _ 1 (.slice (some ⟨w.heap.size, 0, none⟩) (1 + 0) 1) (1 + 0) ((Rc.be (1 + 0) (0 / 4294967296)).map B8)
    rw [be_one_zero]
    exact World.ownsRow_lit (base := 0) (e := 5) (size := 1) w #[.int .u8 0] 1 (Nat.zero_le _) (by unfold maxLen; omega) (by decide)
end Go.Proofs.YtklkboplkobhgaaGreat

/- Plain mathematics of the range coder, more: what scaling keeps; plain bits. -/
namespace Go.Proofs.YtklkboplkobhgaaGreat.Rc

theorem St.scale_ok (N : Nat) (s : St) (hf : s.fits) (hr : 16777216 ≤ s.r * 256 ^ N) : (St.scale N s).ok := by
  induction N generalizing s with
  | zero => exact ⟨hf, by show 16777216 ≤ s.r; simpa using hr⟩
  | succ N ih =>
    rw [St.scale]
    by_cases h : s.r < 16777216
    · rw [if_pos h]
      refine ih _ (s.up_fits hf h) ?_
      show 16777216 ≤ s.r * 256 * 256 ^ N
      rw [Nat.pow_succ, Nat.mul_comm (256 ^ N), ← Nat.mul_assoc] at hr; exact hr
    · rw [if_neg h]; exact ⟨hf, by omega⟩
theorem St.scale_k (N : Nat) (s : St) : (St.scale N s).k ≤ s.k + N := by
  induction N generalizing s with
  | zero => exact Nat.le_refl _
  | succ N ih =>
    rw [St.scale]
    by_cases h : s.r < 16777216
    · rw [if_pos h]
      have := ih s.up
      have e : s.up.k = s.k + 1 := rfl
      omega
    · rw [if_neg h]; omega

/-- A bit. -/
def St.bit (s : St) (c : Nat) (one : Bool) : St := St.scale 2 (s.pick (fair c) one)
theorem St.pick_k (s : St) (p : Nat) (one : Bool) : (s.pick p one).k = s.k := by unfold St.pick; cases one <;> rfl
theorem St.bit_ok (s : St) (c : Nat) (one : Bool) (h : s.ok) : (s.bit c one).ok := by
  obtain ⟨h1, h2⟩ := fair_bounds c
  obtain ⟨hf, hr⟩ := s.pick_fits (fair c) one h h1 h2
  exact St.scale_ok 2 _ hf (by omega)
theorem St.bit_k (s : St) (c : Nat) (one : Bool) : (s.bit c one).k ≤ s.k + 2 := by
  have := St.scale_k 2 (s.pick (fair c) one)
  rw [St.pick_k] at this; exact this

/-- Half of the work of a plain bit. -/
def St.half (s : St) (one : Bool) : St := if one then ⟨s.k, s.v + s.r / 2, s.r / 2⟩ else ⟨s.k, s.v, s.r / 2⟩
theorem St.half_fits (s : St) (one : Bool) (h : s.ok) : (s.half one).fits ∧ 8388608 ≤ (s.half one).r := by
  obtain ⟨⟨hf1, hf2⟩, hr⟩ := h
  unfold St.half St.fits
  cases one
  · simp only [Bool.false_eq_true, if_false]; omega
  · simp only [if_true]; omega
/-- The n lowest bits of x, the most significant one first. -/
def St.plain (s : St) : Nat → Nat → St
  | _, 0 => s
  | x, n + 1 => St.scale 1 ((St.plain s (x / 2) n).half (x % 2 == 1))
theorem St.half_k (s : St) (one : Bool) : (s.half one).k = s.k := by unfold St.half; cases one <;> rfl
theorem St.plain_ok (s : St) (h : s.ok) (n x : Nat) : (s.plain x n).ok ∧ (s.plain x n).k ≤ s.k + n := by
  induction n generalizing x with
  | zero => exact ⟨h, Nat.le_refl _⟩
  | succ n ih =>
    obtain ⟨h1, h2⟩ := ih (x / 2)
    obtain ⟨hf, hr⟩ := (s.plain (x / 2) n).half_fits (x % 2 == 1) h1
    refine ⟨St.scale_ok 1 _ hf (by omega), ?_⟩
    have := St.scale_k 1 ((s.plain (x / 2) n).half (x % 2 == 1))
    rw [St.half_k] at this
    show (St.scale 1 _).k ≤ _
    omega
theorem St.ok_small (s : St) (h : s.ok) : s.v < 256 ^ (4 + s.k) := by
  obtain ⟨⟨h1, _⟩, h2⟩ := h; omega
end Go.Proofs.YtklkboplkobhgaaGreat.Rc

/- The walk over the coder's Plain. -/
namespace Go.Proofs.YtklkboplkobhgaaGreat
set_option maxRecDepth 100000
open Go.RowKit

def PlainDone (w : World) (g o : Nat) (x : Nat) (t : Rc.St) (e : Ending) (w' : World) : Prop := e = .returned (.int .u32 (x : Nat)) ∧ Shifted w g o t w'

/-- How many bits count. -/
def many (n : Int) : Nat := (min (max n 0) 32).toNat

theorem mod_bit (x m j : Nat) (h : j < m) : x % 2 ^ m / 2 ^ j % 2 = x / 2 ^ j % 2 := by
  have e : 2 ^ m = 2 ^ j * 2 ^ (m - j) := by rw [← Nat.pow_add, show j + (m - j) = m by omega]
  rw [e, Nat.mod_mul_right_div_self]
  obtain ⟨d, hd⟩ : ∃ d, m - j = d + 1 := ⟨m - j - 1, by omega⟩
  rw [hd, Nat.pow_succ, Nat.mod_mul_left_mod]
theorem bit_test (x j : Nat) (hx : x < 2 ^ 32) : (bits .and .u32 ((x : Int) / 2 ^ j) 1 == 1) = (x / 2 ^ j % 2 == 1) := by
  have hle : x / 2 ^ j ≤ x := Nat.div_le_self _ _
  have e : (x : Int) / 2 ^ j = ((x / 2 ^ j : Nat) : Int) := by simp
  rw [e, show (1 : Int) = ((1 : Nat) : Int) from rfl, u32_and_nat _ _ (by omega) (by omega), nat_mask1, Bool.eq_iff_iff]
  simp; omega

theorem masked (x t : Nat) (hx : x < 2 ^ 32) (ht : t ≤ 32) : bits .and .u64 (x : Int) (IntKind.u64.wrap (IntKind.u64.wrap (2 ^ t) - 1)) % 4294967296 = ((x % 2 ^ t : Nat) : Int) := by
  have h1 : 1 ≤ 2 ^ t := Nat.one_le_two_pow
  have h2 : 2 ^ t ≤ 2 ^ 32 := Nat.pow_le_pow_right (by omega) ht
  have e : IntKind.u64.wrap (IntKind.u64.wrap (2 ^ t) - 1) = ((2 ^ t - 1 : Nat) : Int) := by
    rw [show (2 : Int) ^ t = ((2 ^ t : Nat) : Int) by simp, IntKind.wrap_u64, IntKind.wrap_u64]
    omega
  have hle : x % 2 ^ t ≤ x := Nat.mod_le _ _
  rw [e, u64_and_nat _ _ (by omega) (by omega), Nat.and_two_pow_sub_one_eq_mod]
  omega

set_option maxRecDepth 100000 in
set_option maxHeartbeats 1000000 in
theorem plain_any (g o cap : Nat) (s : Rc.St) (x : BitVec 32) (n : Int) (w : World) (hE : EncAt w g o cap s) (hs : s.ok) (hk : 1 + s.k + 40 ≤ 140737488355328) :
    Calls Tryz.prog 119 #[.pointer (some ⟨g, 0, none⟩), .int .u32 x.toNat, .int .i64 n] w
      (PlainDone w g o (x.toNat % 2 ^ many n) (s.plain (x.toNat % 2 ^ many n) (many n))) := by
  go_enter Tryz.func119, Tryz.ntmps119
  go_upto_region 3 with (fail)
  go_cut [2] (fun s2 wx => w = wx ∧ s2 = .int .i64 ((many n : Nat) : Int))
  case first =>
    go_wp2_with fail
    all_goals
      go_meet
      refine ⟨rfl, congrArg (Value.int .i64) ?_⟩
      unfold many
      omega
  case rest =>
    obtain ⟨rfl, rfl⟩ := hcut
    have hm : many n ≤ 32 := by unfold many; omega
    generalize many n = m at *
    go_wp2_with fail
    generalize hX : x.toNat % 2 ^ m = X at *
    have HX := Lib.hid hX
    clear hX
    go_loopw [7] (fun i wr => ∃ (t o' cap' : Nat), t ≤ m ∧ i = .int .i64 ((m : Int) - 1 - (t : Int)) ∧ EncAt wr g o' cap' (s.plain (X / 2 ^ (m - t)) t) ∧ Only [g, o] w wr ∧ (o' = o ∨ w.heap.size ≤ o')) (fun i _ => (intOf i + 1).toNat)
    case atStart => exact ⟨0, o, cap, by omega, by go_num, hE, Only.refl _ _, .inl rfl⟩
    case round =>
      obtain ⟨t, o', cap', ht, rfl, hT, hon, ho'⟩ := hrel
      obtain ⟨hpok, hpk⟩ := s.plain_ok hs t (X / 2 ^ (m - t))
      by_cases hlt : t < m
      · obtain ⟨j, hj⟩ : ∃ j : Nat, j = m - 1 - t := ⟨_, rfl⟩
        have hji : (m : Int) - 1 - (t : Int) = (j : Int) := by omega
        have hnext : s.plain (X / 2 ^ (m - (t + 1))) (t + 1) = Rc.St.scale 1 ((s.plain (X / 2 ^ (m - t)) t).half (x.toNat / 2 ^ j % 2 == 1)) := by
          have e1 : m - (t + 1) = j := by omega
          have e2 : X / 2 ^ j / 2 = X / 2 ^ (m - t) := by rw [Nat.div_div_eq_div_mul, ← Nat.pow_succ, show m - t = j.succ by omega]
          have e3 : X / 2 ^ j % 2 = x.toNat / 2 ^ j % 2 := by rw [← HX.out]; exact mod_bit _ _ _ (by omega)
          rw [e1, Rc.St.plain, e2, e3]
        have HN := Lib.hid hnext
        generalize s.plain (X / 2 ^ (m - t)) t = p at *
        have c1 := cell1_of hT.blk
        have f1 := frozen_of_row wr g 1 _ _ hT.blk
        have hbit := bit_test x.toNat j x.isLt
        have hj32 : j < 32 := by omega
        generalize (x.toNat / 2 ^ j % 2 == 1) = b at *
        obtain ⟨hhf, hhr⟩ := p.half_fits b hpok
        clear hnext hE
        rw [hji]
        have HJ := Lib.hid hj
        have HJI := Lib.hid hji
        clear hj hji
        have hr2 : (p.r : Int) / 2 = ((p.r / 2 : Nat) : Int) := by omega
        have hpr := hpok.1.2
        have hr2l : p.r / 2 < 4294967296 := by omega
        generalize hrh : p.r / 2 = rh at *
        have HRH := Lib.hid hrh
        clear hrh
        have hsize := hon.size
        cases b with
        | false =>
          have hph : p.half false = ⟨p.k, p.v, rh⟩ := by rw [← HRH.out]; rfl
          rw [hph] at hhf hhr HN
          have hE1 : EncAt (wr.setCell ⟨g, 1, none⟩ (.int .u32 ((rh : Nat) : Int))) g o' cap' ⟨p.k, p.v, rh⟩ := ⟨blk_set1 hT.blk _, own_other hT.own hT.ne _, hT.ne⟩
          have hsh := Lib.hid (shift_any 1 g o' cap' ⟨p.k, p.v, rh⟩ _ hE1 hhf (by show 1 + p.k + 1 ≤ _; omega) (by show 16777216 ≤ rh * 256 ^ 1; have : 8388608 ≤ rh := hhr; omega))
          go_wp2_with fail
          refine hsh.out.mono ?_
          rintro e w2 ⟨rfl, o2, cap2, hE2, hon2, ho2⟩
          go_wp2_with fail
          go_roundw
          case rel =>
            have hj := HJ.out
            refine ⟨t + 1, o2, cap2, by omega, congrArg (Value.int .i64) (by omega), by rw [HN.out]; exact hE2, (hon.setCell (p := ⟨g, 1, none⟩) (.inl (by simp)) _).trans hon2 ?_, ?_⟩
            · intro i hi; simp at hi; rcases hi with rfl | rfl
              · exact .inl (by simp)
              · rcases ho' with h | h
                · exact .inl (by simp [h])
                · exact .inr h
            · rcases ho2 with h | h
              · rw [h]; exact ho'
              · exact .inr (by simp at h; omega)
          case measure => have hj := HJ.out; simp [intOf] <;> omega
        | true =>
          have hph : p.half true = ⟨p.k, p.v + rh, rh⟩ := by rw [← HRH.out]; rfl
          rw [hph] at hhf hhr HN
          have hE0 : EncAt (wr.setCell ⟨g, 1, none⟩ (.int .u32 ((rh : Nat) : Int))) g o' cap' ⟨p.k, p.v, rh⟩ := ⟨blk_set1 hT.blk _, own_other hT.own hT.ne _, hT.ne⟩
          have hadd := Lib.hid (add_any g o' cap' ⟨p.k, p.v, rh⟩ rh _ hE0 hr2l (by show 1 + p.k ≤ _; omega))
          go_wp2_with fail
          refine hadd.out.mono ?_
          rintro e w1 ⟨rfl, hE1, hona⟩
          have hsh := Lib.hid (shift_any 1 g o' cap' ⟨p.k, p.v + rh, rh⟩ _ hE1 hhf (by show 1 + p.k + 1 ≤ _; omega) (by show 16777216 ≤ rh * 256 ^ 1; have : 8388608 ≤ rh := hhr; omega))
          go_wp2_with fail
          refine hsh.out.mono ?_
          rintro e w2 ⟨rfl, o2, cap2, hE2, hon2, ho2⟩
          go_wp2_with fail
          have hsa := hona.size
          have hin : ∀ i ∈ [g, o'], i ∈ [g, o] ∨ w.heap.size ≤ i := by
            intro i hi; simp at hi; rcases hi with rfl | rfl
            · exact .inl (by simp)
            · rcases ho' with h | h
              · exact .inl (by simp [h])
              · exact .inr h
          go_roundw
          case rel =>
            have hj := HJ.out
            refine ⟨t + 1, o2, cap2, by omega, congrArg (Value.int .i64) (by omega), by rw [HN.out]; exact hE2, ((hon.setCell (p := ⟨g, 1, none⟩) (.inl (by simp)) _).trans hona hin).trans hon2 hin, ?_⟩
            rcases ho2 with h | h
            · rw [h]; exact ho'
            · exact .inr (by simp at hsa; omega)
          case measure => have hj := HJ.out; simp [intOf] <;> omega
      · have htm : t = m := by omega
        subst htm
        have hp0 : X / 2 ^ (t - t) = X := by simp
        rw [hp0] at hT
        go_wp2_with fail
        go_ret
        exact ⟨by rw [masked _ _ x.isLt hm, HX.out]; rfl, o', cap', hT, hon, ho'⟩
end Go.Proofs.YtklkboplkobhgaaGreat

/- What is kept of the coder (for a seat without the coder's own examples). -/
namespace Go.Proofs.YtklkboplkobhgaaGreat
set_option maxRecDepth 100000
open Go.RowKit

theorem own_keep {w w' : World} {e o n cap : Nat} {xs : List Value} (h : w.ownsRow 0 e 1 (.slice (some ⟨o, 0, none⟩) n cap) n xs) (ho : w'.heap[o]? = w.heap[o]?) : w'.ownsRow 0 e 1 (.slice (some ⟨o, 0, none⟩) n cap) n xs := by
  rcases h with ⟨h1, h2 | ⟨g, cap', cur, h2, h3, h4, h5⟩⟩
  · exact ⟨h1, .inl h2⟩
  · injection h2 with e1 e2 e3
    injection e1 with e1
    injection e1 with e1
    subst e1 e3
    exact ⟨h1, .inr ⟨o, cap, cur, rfl, h3, ho.trans h4, h5⟩⟩
theorem EncAt.keep {w w' : World} {g o cap : Nat} {s : Rc.St} (h : EncAt w g o cap s) (hg : w'.heap[g]? = w.heap[g]?) (ho : w'.heap[o]? = w.heap[o]?) : EncAt w' g o cap s :=
  ⟨hg.trans h.blk, own_keep h.own ho, h.ne⟩
theorem EncAt.lt {w : World} {g o cap : Nat} {s : Rc.St} (h : EncAt w g o cap s) : g < w.heap.size ∧ o < w.heap.size :=
  ⟨block_lt_of_cell (cell0_of h.blk), (h.own.lt o rfl).2⟩
theorem EncAt.below {w w' : World} {g o cap : Nat} {s : Rc.St} (h : EncAt w g o cap s) (hb : Below w.heap.size w w') : EncAt w' g o cap s :=
  h.keep (hb.block g h.lt.1) (hb.block o h.lt.2)
end Go.Proofs.YtklkboplkobhgaaGreat
