/- slices.BinarySearch over int32. -/
import Derived.Test.YtnglkipjiojipaaFdFours
namespace Go.Proofs.Ytnglkipjiojipaa
open Go.RowKit

theorem nan_any (x : Int) (w : World) : Calls Try.prog 32 #[.int .i32 x] w fun e w' => e = .returned (.bool false) ∧ w = w' := by
  go_enter Try.func32, Try.ntmps32
  go_wp2_with fail
  go_ret
  exact ⟨rfl, rfl⟩
theorem snan_any (x : Int) (w : World) : Calls Try.prog 31 #[.int .i32 x] w fun e w' => e = .returned (.bool false) ∧ w = w' := by
  go_enter Try.func31, Try.ntmps31
  go_wp2_with fail
  go_ret
  exact ⟨rfl, rfl⟩
theorem less_any (x y : Int) (w : World) : Calls Try.prog 30 #[.int .i32 x, .int .i32 y] w fun e w' => e = .returned (.bool (decide (x < y))) ∧ w = w' := by
  have HN := Lib.hid nan_any
  generalize hb : decide (x < y) = b
  go_enter Try.func30, Try.ntmps30
  go_wp2_with fail
  refine (HN.out _ _).mono ?_
  rintro e w1 ⟨rfl, rfl⟩
  go_wp2_with fail
  go_ret
  exact ⟨rfl, rfl⟩
/-- What can be read of a slice of int32 numbers. -/
def Read32 (w : World) (A : Option Addr) (l : List Nat) : Prop := ∀ i (h : i < l.length), ∃ g, A = some ⟨g, 0, none⟩ ∧ w.cell? ⟨g, i, none⟩ = some (.int .i32 (l[i] : Nat))
def SearchDone (l : List Nat) (x : Nat) (w : World) (e : Ending) (w' : World) : Prop := (∃ (i : Nat) (b : Bool), e = .returned (.tuple #[.int .i64 (i : Nat), .bool b]) ∧ i ≤ l.length ∧ (∀ q (h : q < l.length), q < i → l[q] < x) ∧ (∀ q (h : q < l.length), i ≤ q → x ≤ l[q])) ∧ w = w'
set_option maxRecDepth 100000 in
set_option maxHeartbeats 1000000 in
theorem search_any (A : Option Addr) (l : List Nat) (c x : Nat) (w : World) (hA : Read32 w A l) (hl : l.length ≤ 100000) (hc : l.length ≤ c) (hs : l.Pairwise (· < ·)) :
    Calls Try.prog 28 #[.slice A l.length c, .int .i32 (x : Nat)] w (SearchDone l x w) := by
  have hli : (l.length : Int) ≤ 100000 := by omega
  have hci : (l.length : Int) ≤ (c : Int) := by omega
  have HA := Lib.hid hA
  have HLS := Lib.hid less_any
  have HNA := Lib.hid snan_any
  have HSO : Hid (∀ p q (hp : p < l.length) (hq : q < l.length), p < q → l[p] < l[q]) := Lib.hid (fun p q hp hq h => List.pairwise_iff_getElem.1 hs p q hp hq h)
  clear hA hs hc
  go_enter Try.func28, Try.ntmps28
  go_wp2_with fail
  go_loopw [7, 8] (fun a b wr => ∃ i j : Nat, i ≤ j ∧ j ≤ l.length ∧ a = .int .i64 (i : Nat) ∧ b = .int .i64 (j : Nat) ∧ Hid (∀ q (h : q < l.length), q < i → l[q] < x) ∧ Hid (∀ q (h : q < l.length), j ≤ q → x ≤ l[q]) ∧ wr = w) (fun a b _ => (intOf b).toNat - (intOf a).toNat)
  case atStart => exact ⟨0, l.length, by omega, Nat.le_refl _, rfl, rfl, Lib.hid (fun q _ h => by omega), Lib.hid (fun q h h2 => by omega), rfl⟩
  case round =>
    obtain ⟨i, j, hij, hj, rfl, rfl, H1, H2, rfl⟩ := hrel
    by_cases hlt : i < j
    · have hlti : (i : Int) < (j : Int) := by omega
      have hj4 : (j : Int) ≤ 100000 := by omega
      obtain ⟨m, hm⟩ : ∃ m : Nat, (i + j) / 2 = m := ⟨_, rfl⟩
      have hml : m < l.length := by omega
      have hmi : (m : Int) < (l.length : Int) := by omega
      obtain ⟨g, rfl, hcell⟩ := HA.out m hml
      have e1 : ((i : Int) + (j : Int)) / 2 = (m : Int) := by omega
      have HH := Lib.hid (show i ≤ m ∧ m < j by omega)
      obtain ⟨y, hy⟩ : ∃ y, l[m] = y := ⟨_, rfl⟩
      rw [hy] at hcell
      have HY := Lib.hid hy
      clear hy hm
      by_cases hyx : y < x
      · have hb : decide ((y : Int) < (x : Int)) = true := decide_eq_true (by omega)
        have HL1 := Lib.hid (HLS.out (y : Int) (x : Int) wr)
        rw [hb] at HL1
        have H3 : Hid (∀ q (h : q < l.length), q < m + 1 → l[q] < x) := Lib.hid (fun q hq h2 => by
          rcases Nat.lt_or_ge q m with h3 | h3
          · have := HSO.out q m hq hml h3
            have := HY.out
            omega
          · obtain rfl : q = m := by omega
            have := HY.out
            omega)
        clear hb
        go_wp2_with fail
        refine HL1.out.mono ?_
        rintro e w1 ⟨rfl, rfl⟩
        go_wp2_with fail
        exact ⟨⟨m + 1, j, by have := HH.out; omega, hj, by go_num, rfl, H3, H2, by trivial⟩, by have := HH.out; simp [intOf]; omega⟩
      · have hb : decide ((y : Int) < (x : Int)) = false := decide_eq_false (by omega)
        have HL1 := Lib.hid (HLS.out (y : Int) (x : Int) wr)
        rw [hb] at HL1
        have H3 : Hid (∀ q (h : q < l.length), m ≤ q → x ≤ l[q]) := Lib.hid (fun q hq h2 => by
          rcases Nat.lt_or_ge m q with h3 | h3
          · have := HSO.out m q hml hq h3
            have := HY.out
            omega
          · obtain rfl : q = m := by omega
            have := HY.out
            omega)
        clear hb
        go_wp2_with fail
        refine HL1.out.mono ?_
        rintro e w1 ⟨rfl, rfl⟩
        go_wp2_with fail
        exact ⟨⟨i, m, by have := HH.out; omega, by omega, rfl, rfl, H1, H3, by trivial⟩, by have := HH.out; simp [intOf]; omega⟩
    · obtain rfl : i = j := by omega
      have hi4 : (i : Int) ≤ 100000 := by omega
      by_cases hil : i < l.length
      · have hili : (i : Int) < (l.length : Int) := by omega
        obtain ⟨g, rfl, hcell⟩ := HA.out i hil
        obtain ⟨y, hy⟩ : ∃ y, l[i] = y := ⟨_, rfl⟩
        rw [hy] at hcell
        clear hy
        by_cases hyx : y = x
        · subst hyx
          go_wp2_with fail
          go_ret2
          exact ⟨⟨i, true, rfl, hj, H1.out, H2.out⟩, rfl⟩
        · have hb : ((y : Int) == (x : Int)) = false := by rw [beq_eq_false_iff_ne]; omega
          go_wp2_with fail
          refine (HNA.out _ _).mono ?_
          rintro e w1 ⟨rfl, rfl⟩
          go_wp2_with fail
          go_ret2
          exact ⟨⟨i, false, rfl, hj, H1.out, H2.out⟩, rfl⟩
      · have hili : ¬ (i : Int) < (l.length : Int) := by omega
        go_wp2_with fail
        go_ret2
        exact ⟨⟨i, false, rfl, hj, H1.out, H2.out⟩, rfl⟩
end Go.Proofs.Ytnglkipjiojipaa
