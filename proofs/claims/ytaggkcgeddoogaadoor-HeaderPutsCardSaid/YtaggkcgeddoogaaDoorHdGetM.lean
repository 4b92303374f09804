/- What stands in a head's bytes. -/
import Derived.Test.YtaggkcgeddoogaaDoorHdPutM
import Derived.Test.YtaggkcgeddoogaaDoorVliAll
namespace Go.Proofs.YtaggkcgeddoogaaDoor
open Go.RowKit

theorem Vl.go_cases (l : List UInt8) : ∀ f i, (Vl.go l f i).2.2 = 2 ∧ (Vl.go l f i).1 = 0 ∧ (Vl.go l f i).2.1 = 0 ∨ (Vl.go l f i).2.2 = 6 ∧ (Vl.go l f i).1 = 0 ∧ (Vl.go l f i).2.1 = 0 ∨ (Vl.go l f i).2.2 = 0 ∧ (Vl.go l f i).2.1 ≤ l.length ∧ 0 < (Vl.go l f i).2.1 ∧ (Vl.go l f i).1 < 128 ^ (i + f)
  | 0, i => .inr (.inl ⟨rfl, rfl, rfl⟩)
  | f + 1, i => by
    rw [Vl.go]
    split
    · exact .inl ⟨rfl, rfl, rfl⟩
    · split
      · have := Vl.go_cases l f (i + 1)
        rwa [show i + 1 + f = i + (f + 1) by omega] at this
      · split
        · exact .inr (.inl ⟨rfl, rfl, rfl⟩)
        · refine .inr (.inr ⟨rfl, by show i + 1 ≤ _; omega, by show 0 < i + 1; omega, ?_⟩)
          exact Nat.lt_of_lt_of_le (Vl.num_lt l (i + 1)) (Nat.pow_le_pow_right (by omega) (by omega))
theorem Vl.get_cases (l : List UInt8) : (Vl.get l).2.2 = 2 ∧ (Vl.get l).1 = 0 ∧ (Vl.get l).2.1 = 0 ∨ (Vl.get l).2.2 = 6 ∧ (Vl.get l).1 = 0 ∧ (Vl.get l).2.1 = 0 ∨ (Vl.get l).2.2 = 0 ∧ (Vl.get l).2.1 ≤ l.length ∧ 0 < (Vl.get l).2.1 ∧ (Vl.get l).1 < 9223372036854775808 := Vl.go_cases l 9 0
theorem Bytes.cut {w : World} {A : Option Addr} {l : List UInt8} (h : Bytes w A l) (k : Nat) : Bytes w (A.map fun x => x.add k) (l.drop k) := by
  rcases Nat.eq_zero_or_pos l.length with h0 | h0
  · rw [List.eq_nil_of_length_eq_zero h0, List.drop_nil]; exact .nil
  · obtain ⟨b, off, rfl, _, _⟩ := h.addr h0
    have e : (⟨b, off, none⟩ : Addr).add k = ⟨b, off + k, none⟩ := by unfold Addr.add; split <;> simp_all
    show Bytes w (some ((⟨b, off, none⟩ : Addr).add k)) _
    rw [e]; exact Bytes.drop k h

def nextM (l : List UInt8) : Option (Nat × List UInt8) := if (Vl.get l).2.2 = 0 then some ((Vl.get l).1, l.drop (Vl.get l).2.1) else none
theorem next_some {l l' : List UInt8} {n : Nat} (h : nextM l = some (n, l')) : n < 9223372036854775808 ∧ l'.length < l.length ∧ ∃ k, k ≤ l.length ∧ 0 < k ∧ Vl.get l = (n, k, 0) ∧ l' = l.drop k := by
  unfold nextM at h
  rcases Vl.get_cases l with ⟨h1, _⟩ | ⟨h1, _⟩ | ⟨h1, h2, h3, h4⟩
  · rw [if_neg (by omega)] at h; cases h
  · rw [if_neg (by omega)] at h; cases h
  · rw [if_pos h1] at h
    injection h with h
    injection h with e1 e2
    subst e1; subst e2
    exact ⟨h4, by rw [List.length_drop]; omega, _, h2, h3, by rw [← h1], rfl⟩
theorem next_none {l : List UInt8} (h : nextM l = none) : Vl.get l = (0, 0, 2) ∨ Vl.get l = (0, 0, 6) := by
  unfold nextM at h
  rcases Vl.get_cases l with ⟨h1, h2, h3⟩ | ⟨h1, h2, h3⟩ | ⟨h1, _⟩
  · exact .inl (Prod.ext h2 (Prod.ext h3 h1))
  · exact .inr (Prod.ext h2 (Prod.ext h3 h1))
  · rw [if_pos h1] at h; cases h
def oneM (l : List UInt8) : Fil × List UInt8 × Nat :=
  match nextM l with
  | none => (⟨0, 0⟩, [], 4)
  | some (id, l1) => match nextM l1 with
    | none => (⟨0, 0⟩, [], 4)
    | some (n, l2) => if l2.length < n then (⟨0, 0⟩, [], 4) else if 2147483648 ≤ id then (⟨0, 0⟩, [], 5) else match readL (id : Int) (l2.take n) with
      | none => (⟨0, 0⟩, [], 5)
      | some f => (f, l2.drop n, 0)
def filsM (many : Nat) : Nat → Nat → List UInt8 → List Fil → List Fil × List UInt8 × Nat
  | 0, _, l, acc => (acc, l, 0)
  | k + 1, i, l, acc => if (oneM l).2.2 ≠ 0 then ([], [], (oneM l).2.2) else if ((oneM l).1.id == 33) != (i == many) then ([], [], 5) else filsM many k (i + 1) (oneM l).2.1 (acc ++ [(oneM l).1])
theorem filsM_more (many k i : Nat) (l : List UInt8) (acc : List Fil) : filsM many (k + 1) i l acc = if (oneM l).2.2 ≠ 0 then ([], [], (oneM l).2.2) else if ((oneM l).1.id == 33) != (i == many) then ([], [], 5) else filsM many k (i + 1) (oneM l).2.1 (acc ++ [(oneM l).1]) := rfl
def optM (here z : Bool) (l : List UInt8) : Option (Int × List UInt8) := if here = true then (match nextM l with
  | none => none
  | some (n, l') => if (z && n == 0) = true then none else some ((n : Int), l')) else some (-1, l)
def sizesM (s : Nat) (l : List UInt8) : Option (Int × Int × List UInt8) := match optM (s / 64 % 2 == 1) true l with
  | none => none
  | some (p, l1) => match optM (s / 128 == 1) false l1 with
    | none => none
    | some (q, l2) => some (p, q, l2)
def zeroH : HeadM := ⟨0, 0, [], 0⟩
def partsM (s : Nat) (l : List UInt8) : HeadM × Nat := match sizesM s l with
  | none => (zeroH, 4)
  | some (p, q, l2) => if (filsM (s % 4) (s % 4 + 1) 0 l2 []).2.2 ≠ 0 then (zeroH, (filsM (s % 4) (s % 4 + 1) 0 l2 []).2.2)
    else if (filsM (s % 4) (s % 4 + 1) 0 l2 []).2.1.all (· == 0) = false then (zeroH, 5)
    else (⟨p, q, (filsM (s % 4) (s % 4 + 1) 0 l2 []).1.take (s % 4), ((filsM (s % 4) (s % 4 + 1) 0 l2 []).1.getD (s % 4) ⟨0, 0⟩).n⟩, 0)
def part (l : List UInt8) (a n : Nat) : List UInt8 := (l.drop a).take n
theorem part_length (l : List UInt8) (a n : Nat) (h : a + n ≤ l.length) : (part l a n).length = n := by unfold part; rw [List.length_take, List.length_drop]; omega
def sizeB (b : List UInt8) : Nat := 4 * (b.getD 0 0).toNat + 4
/-- The head's bytes without their CRC-32, and an error's number. -/
def sealM (b : List UInt8) : List UInt8 × Nat :=
  if b.length = 0 then ([], 2) else if b.getD 0 0 = 0 then ([], 4) else if b.length < sizeB b then ([], 2)
  else if (sum1 (b.take (sizeB b - 4)) == part b (sizeB b - 4) 4) = false then ([], 4) else (b.take (sizeB b - 4), 0)
def getHd (b : List UInt8) : HeadM × Nat × Nat :=
  if (sealM b).2 ≠ 0 then (zeroH, 0, (sealM b).2) else if (b.getD 1 0).toNat / 4 % 16 ≠ 0 then (zeroH, 0, 5)
  else if (partsM (b.getD 1 0).toNat ((sealM b).1.drop 2)).2 ≠ 0 then (zeroH, 0, (partsM (b.getD 1 0).toNat ((sealM b).1.drop 2)).2)
  else ((partsM (b.getD 1 0).toNat ((sealM b).1.drop 2)).1, sizeB b, 0)

/-- A box that holds what is left to read; its bytes lie below it. -/
def Rest (bo : Nat) (w : World) (l : List UInt8) : Prop := ∃ A c, Box bo w (.slice A l.length c) ∧ Bytes w A l ∧ (∀ a, A = some a → a.block < bo) ∧ l.length ≤ c ∧ c ≤ 9223372036854775807
theorem Bytes.low {w w' : World} {A : Option Addr} {l : List UInt8} {B : Nat} (h : Bytes w A l) (hb : Below B w w') (hA : ∀ a, A = some a → a.block < B) : Bytes w' A l := by
  rcases h with h | ⟨b, off, rfl, h2, h3⟩
  · exact .inl h
  · exact .inr ⟨b, off, rfl, Nat.lt_of_lt_of_le h2 hb.size, fun k hk => (hb.cell (p := ⟨b, off + k, none⟩) (hA ⟨b, off, none⟩ rfl)).trans (h3 k hk)⟩
theorem Rest.keep {bo : Nat} {w w' : World} {l : List UInt8} (h : Rest bo w l) (hb : Below (bo + 1) w w') : Rest bo w' l := by
  obtain ⟨A, c, h1, h2, h3, h4, h5⟩ := h
  exact ⟨A, c, (hb.block bo (by omega)).trans h1, h2.low hb (fun a e => by have := h3 a e; omega), h3, h4, h5⟩
theorem add_block (a : Addr) (k : Nat) : (a.add k).block = a.block := by
  obtain ⟨b, off, sp⟩ := a
  unfold Addr.add; split <;> rfl
theorem Rest.step {bo c k : Nat} {A : Option Addr} {w : World} {l : List UInt8} (hx : Box bo w (.slice A l.length c)) (hB : Bytes w A l) (hA : ∀ a, A = some a → a.block < bo) (hk : k ≤ l.length) (hc : l.length ≤ c) (hm : c ≤ 9223372036854775807) :
    Rest bo (w.setCell ⟨bo, 0, none⟩ (.slice (A.map fun x => x.add k) (l.length - k) (c - k))) (l.drop k) := by
  have hb : Below bo w (w.setCell ⟨bo, 0, none⟩ (.slice (A.map fun x => x.add k) (l.length - k) (c - k))) := Below.setCell (p := ⟨bo, 0, none⟩) (Below.refl _ _) (Nat.le_refl _) _
  have hA2 : ∀ a, (A.map fun x => x.add k) = some a → a.block < bo := by
    intro a e
    obtain ⟨a0, h1, h2⟩ := Option.map_eq_some_iff.1 e
    rw [← h2, add_block]; exact hA a0 h1
  refine ⟨_, c - k, ?_, (hB.cut k).low hb hA2, hA2, by rw [List.length_drop]; omega, by omega⟩
  rw [List.length_drop]; exact hx.set _
theorem Rest.over {bo c k : Nat} {A : Option Addr} {w : World} {l : List UInt8} (hx : Box bo w (.slice A l.length c)) (hA : ∀ a, A = some a → a.block < bo) (hk : l.length ≤ k) :
    Rest bo (w.setCell ⟨bo, 0, none⟩ (.slice A (l.length - k) 0)) (l.drop k) := by
  rw [List.drop_eq_nil_of_le hk]
  refine ⟨A, 0, ?_, .inl rfl, hA, by simp, by omega⟩
  have h0 : l.length - k = 0 := by omega
  rw [h0]; exact hx.set _
end Go.Proofs.YtaggkcgeddoogaaDoor
