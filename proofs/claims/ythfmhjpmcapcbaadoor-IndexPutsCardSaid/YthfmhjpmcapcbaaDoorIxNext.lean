/- index: zeros, unpadded, and the closure that reads the next number. -/
import Derived.Test.YthfmhjpmcapcbaaDoorSmSum
import Derived.Test.YthfmhjpmcapcbaaDoorVliRef
namespace Go.Proofs.YthfmhjpmcapcbaaDoor
open Go.RowKit

def zerosN (n : Nat) : Nat := (4 - n % 4) % 4
theorem ix_zeros (n : Nat) (w : World) (hn : n ≤ 1000000000) : Calls Tryd.prog 16 #[.int .i64 (n : Nat)] w fun e w' => e = .returned (.int .i64 (zerosN n : Nat)) ∧ w = w' := by
  have hi : (n : Int) ≤ 1000000000 := by omega
  have hz : (((4 - (n : Int) % 4) % 4 : Int)) = ((zerosN n : Nat) : Int) := by unfold zerosN; omega
  go_enter Tryd.func16, Tryd.ntmps16
  go_wp2_with fail
  rw [hz]
  go_ret
  exact ⟨rfl, rfl⟩
def fitsU (n : Int) : Bool := decide (5 ≤ n) && decide (n ≤ 9223372036854775804)
theorem ix_unpadded (n : Int) (w : World) (lo : -9223372036854775808 ≤ n) (hi : n ≤ 9223372036854775807) : Calls Tryd.prog 15 #[.int .i64 n] w fun e w' => e = .returned (.bool (fitsU n)) ∧ w = w' := by
  by_cases h5 : 5 ≤ n
  · by_cases hm : n ≤ 9223372036854775804
    · have hf : fitsU n = true := by unfold fitsU; simp [h5, hm]
      rw [hf]
      clear hf
      go_enter Tryd.func15, Tryd.ntmps15
      go_wp2_with fail
      go_ret
      exact ⟨rfl, rfl⟩
    · have hf : fitsU n = decide (n ≤ 9223372036854775804) := by unfold fitsU; simp [h5]
      rw [hf]
      clear hf hm
      go_enter Tryd.func15, Tryd.ntmps15
      go_wp2_with fail
      go_ret
      exact ⟨rfl, rfl⟩
  · have hf : fitsU n = false := by unfold fitsU; simp [h5]
    rw [hf]
    have h52 : n < 5 := by omega
    clear hf h5
    go_enter Tryd.func15, Tryd.ntmps15
    go_wp2_with fail
    go_ret
    exact ⟨rfl, rfl⟩

/-- The number that stands at a place, the place behind it, an error's number. -/
def nextR (l : List UInt8) (k : Nat) : Nat × Nat × Nat :=
  if (Vl.get (l.drop k)).2.2 = 6 then (0, 0, 8) else ((Vl.get (l.drop k)).1, k + (Vl.get (l.drop k)).2.1, (Vl.get (l.drop k)).2.2)
theorem Vl.go_cases (l : List UInt8) : ∀ f i, (Vl.go l f i).2.2 = 2 ∧ (Vl.go l f i).1 = 0 ∧ (Vl.go l f i).2.1 = 0 ∨ (Vl.go l f i).2.2 = 6 ∧ (Vl.go l f i).1 = 0 ∧ (Vl.go l f i).2.1 = 0 ∨ (Vl.go l f i).2.2 = 0 ∧ (Vl.go l f i).2.1 ≤ l.length ∧ 0 < (Vl.go l f i).2.1 ∧ (Vl.go l f i).1 < 128 ^ (i + f)
  | 0, i => .inr (.inl ⟨rfl, rfl, rfl⟩)
  | f + 1, i => by
    rw [Vl.go]
    split
    · exact .inl ⟨rfl, rfl, rfl⟩
    · split
      · have := Vl.go_cases l f (i + 1)
        rwa [show i + 1 + f = i + (f + 1) by omega] at this
      · split
        · exact .inr (.inl ⟨rfl, rfl, rfl⟩)
        · refine .inr (.inr ⟨rfl, by show i + 1 ≤ _; omega, by show 0 < i + 1; omega, ?_⟩)
          exact Nat.lt_of_lt_of_le (Vl.num_lt l (i + 1)) (Nat.pow_le_pow_right (by omega) (by omega))
theorem Vl.get_cases (l : List UInt8) : (Vl.get l).2.2 = 2 ∧ (Vl.get l).1 = 0 ∧ (Vl.get l).2.1 = 0 ∨ (Vl.get l).2.2 = 6 ∧ (Vl.get l).1 = 0 ∧ (Vl.get l).2.1 = 0 ∨ (Vl.get l).2.2 = 0 ∧ (Vl.get l).2.1 ≤ l.length ∧ 0 < (Vl.get l).2.1 ∧ (Vl.get l).1 < 9223372036854775808 := Vl.go_cases l 9 0

theorem Bytes.cut {w : World} {A : Option Addr} {l : List UInt8} (h : Bytes w A l) (k : Nat) : Bytes w (A.map fun x => x.add k) (l.drop k) := by
  rcases Nat.eq_zero_or_pos l.length with h0 | h0
  · rw [List.eq_nil_of_length_eq_zero h0, List.drop_nil]; exact .nil
  · obtain ⟨b, off, rfl, _, _⟩ := h.addr h0
    have e : (⟨b, off, none⟩ : Addr).add k = ⟨b, off + k, none⟩ := by unfold Addr.add; split <;> simp_all
    show Bytes w (some ((⟨b, off, none⟩ : Addr).add k)) _
    rw [e]; exact Bytes.drop k h
/-- What the closure hands back. -/
def NextDone (ba : Nat) (r : Nat × Nat × Nat) (w : World) (e : Ending) (w' : World) : Prop :=
  e = .returned (.tuple #[.int .i64 (r.1 : Nat), .int .i64 (r.2.2 : Nat)]) ∧ (r.2.2 = 0 → w' = w.setCell ⟨ba, 0, none⟩ (.int .i64 (r.2.1 : Nat))) ∧ Below ba w w'

set_option maxRecDepth 100000 in
set_option maxHeartbeats 1000000 in
theorem next_any (bb ba : Nat) (A : Option Addr) (l : List UInt8) (c k : Nat) (w : World) (hbb : w.cell? ⟨bb, 0, none⟩ = some (.slice A l.length c)) (hba : w.cell? ⟨ba, 0, none⟩ = some (.int .i64 (k : Nat))) (hfz : w.frozen? ⟨ba, 0, none⟩ = false)
    (hB : Bytes w A l) (hk : k ≤ l.length) (hc : l.length ≤ c) (hm : c ≤ 9223372036854775807) (hl : l.length ≤ 1000000) :
    Calls Tryd.prog 18 #[.pointer (some ⟨bb, 0, none⟩), .pointer (some ⟨ba, 0, none⟩)] w (NextDone ba (nextR l k) w) := by
  have HG := Lib.hid (show ∀ A' c', Bytes w A' (l.drop k) → Calls Tryd.prog 19 #[.slice A' (l.length - k) c'] w (Got w (Vl.get (l.drop k))) from fun A' c' h => by
    have := get_any A' (l.drop k) c' w h (by rw [List.length_drop]; omega)
    rwa [List.length_drop] at this)
  have HB := Lib.hid hB
  have hki : (k : Int) ≤ (l.length : Int) := by omega
  have hci : (l.length : Int) ≤ (c : Int) := by omega
  have hli : (l.length : Int) ≤ 1000000 := by omega
  have hkL : l.length ≤ k → l.drop k = [] := fun h => List.drop_eq_nil_of_le h
  have HKL := Lib.hid hkL
  have hdl : (l.drop k).length = l.length - k := List.length_drop
  have HGC := Vl.get_cases (l.drop k)
  have hR : nextR l k = if (Vl.get (l.drop k)).2.2 = 6 then (0, 0, 8) else ((Vl.get (l.drop k)).1, k + (Vl.get (l.drop k)).2.1, (Vl.get (l.drop k)).2.2) := rfl
  rw [hdl] at HGC
  generalize nextR l k = R at *
  generalize Vl.get (l.drop k) = q at *
  obtain ⟨n, m, er⟩ := q
  clear hB hkL hdl
  rcases HGC with ⟨h1, h2, h3⟩ | ⟨h1, h2, h3⟩ | ⟨h1, h2, h3, h4⟩
  · obtain rfl : er = 2 := h1
    obtain rfl : n = 0 := h2
    obtain rfl : m = 0 := h3
    obtain rfl : R = (0, k, 2) := hR
    go_enter Tryd.func18, Tryd.ntmps18
    go_wp2_with fail
    · refine (HG.out A 0 (by rw [HKL.out (by omega)]; exact .nil)).mono ?_
      rintro e w1 ⟨rfl, rfl⟩
      go_wp2_with fail
      go_ret2
      exact ⟨rfl, fun h => absurd (show (2 : Nat) = 0 from h) (by decide), Below.setCell (p := ⟨ba, 0, none⟩) (Below.refl _ _) (Nat.le_refl _) _⟩
    · refine (HG.out _ (c - k) (HB.out.cut k)).mono ?_
      rintro e w1 ⟨rfl, rfl⟩
      go_wp2_with fail
      go_ret2
      exact ⟨rfl, fun h => absurd (show (2 : Nat) = 0 from h) (by decide), Below.setCell (p := ⟨ba, 0, none⟩) (Below.refl _ _) (Nat.le_refl _) _⟩
  · obtain rfl : er = 6 := h1
    obtain rfl : n = 0 := h2
    obtain rfl : m = 0 := h3
    obtain rfl : R = (0, 0, 8) := hR
    go_enter Tryd.func18, Tryd.ntmps18
    go_wp2_with fail
    · refine (HG.out A 0 (by rw [HKL.out (by omega)]; exact .nil)).mono ?_
      rintro e w1 ⟨rfl, rfl⟩
      go_wp2_with fail
      go_ret2
      exact ⟨rfl, fun h => absurd h (by decide), Below.refl _ _⟩
    · refine (HG.out _ (c - k) (HB.out.cut k)).mono ?_
      rintro e w1 ⟨rfl, rfl⟩
      go_wp2_with fail
      go_ret2
      exact ⟨rfl, fun h => absurd h (by decide), Below.refl _ _⟩
  · obtain rfl : er = 0 := h1
    obtain rfl : R = (n, k + m, 0) := hR
    have hn : (n : Int) < 9223372036854775808 := by have : n < _ := h4; omega
    have hn0 : (0 : Int) ≤ (n : Int) := by omega
    have hmm : (m : Int) ≤ 1000000 := by have : m ≤ _ := h2; omega
    have HNB := Lib.hid (And.intro hn (And.intro hn0 hmm))
    clear h2 h3 h4 hn hn0 hmm
    go_enter Tryd.func18, Tryd.ntmps18
    go_wp2_with fail
    · refine (HG.out A 0 (by rw [HKL.out (by omega)]; exact .nil)).mono ?_
      rintro e w1 ⟨rfl, rfl⟩
      obtain ⟨hn, hn0, hmm⟩ := HNB.out
      go_wp2_with fail
      go_ret2
      exact ⟨rfl, fun _ => rfl, Below.setCell (p := ⟨ba, 0, none⟩) (Below.refl _ _) (Nat.le_refl _) _⟩
    · refine (HG.out _ (c - k) (HB.out.cut k)).mono ?_
      rintro e w1 ⟨rfl, rfl⟩
      obtain ⟨hn, hn0, hmm⟩ := HNB.out
      go_wp2_with fail
      go_ret2
      exact ⟨rfl, fun _ => rfl, Below.setCell (p := ⟨ba, 0, none⟩) (Below.refl _ _) (Nat.le_refl _) _⟩
end Go.Proofs.YthfmhjpmcapcbaaDoor
