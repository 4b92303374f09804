/- The model's lengths. -/
import Derived.Test.YtklkboplkobhgaaMdTree
namespace Go.Proofs.Ytklkboplkobhgaa
set_option maxRecDepth 100000
open Go.RowKit

namespace Md
/-- A length's bits: A, the first of its chances; p, the place. -/
def len (io : Io) (A p : Nat) (l : Int) (x : io.S) : Nat × io.S :=
  let y := io.bitAt A (decide (8 ≤ l - 2)) x
  if y.1 = false then (2 + (tree io (A + 2 + 8 * p) 3 (l - 2) y.2).1, (tree io (A + 2 + 8 * p) 3 (l - 2) y.2).2)
  else
    let z := io.bitAt (A + 1) (decide (16 ≤ l - 2)) y.2
    if z.1 = false then (10 + (tree io (A + 130 + 8 * p) 3 (l - 2 - 8) z.2).1, (tree io (A + 130 + 8 * p) 3 (l - 2 - 8) z.2).2)
    else (18 + (tree io (A + 258) 8 (l - 2 - 16) z.2).1, (tree io (A + 258) 8 (l - 2 - 16) z.2).2)
end Md
/-- What a call comes to, and something beside it. -/
def MAnd (Q : Prop) (D : Ending → World → Prop) (e : Ending) (w' : World) : Prop := D e w' ∧ Q
set_option maxRecDepth 100000 in
set_option maxHeartbeats 1000000 in
theorem len_is (io : Io) {C L lc lp pb st : Nat} {r : R4} {x : io.S} {X : List Nat} {w : World} (hM : MS io w C L lc lp pb st r x X) {A p k : Nat} {l : Int} {R : Nat} {Z : io.S} (hR : Md.len io A p l x = (R, Z)) (hok : io.ok x.2 (k + 10)) (hA : A = 432 ∨ A = 946) (hp : p < 16) (hl0 : 0 ≤ l) (hl1 : l ≤ 300) :
    Calls Try.prog 50 #[.pointer (some ⟨C, 9 + A, none⟩), io.v, .int .i64 (p : Nat), .int .i64 l] w (MAnd (2 ≤ R ∧ R ≤ 273 ∧ io.ok Z.2 k) (MDone (.int .i64 (R : Nat)) io C L lc lp pb st r Z X w)) := by
  have hpi : (p : Int) < 16 := by omega
  have HA : Hid (A = 432 ∨ A = 946) := Lib.hid hA
  unfold Md.len at hR
  obtain ⟨⟨B, y⟩, hy⟩ : ∃ z, io.bitAt A (decide (8 ≤ l - 2)) x = z := ⟨_, rfl⟩
  obtain ⟨h1, ok1⟩ := bit_is io hM hy (at_ := A) (j := 0) (len := 2) (cp := 2) (b := C) (off := 9 + A) rfl (k := k + 9) hok (Md.seg_mid rfl (by omega) (by omega)) (by omega) (by omega) (by omega)
  rw [hy] at hR
  simp only at hR
  have H1 := Lib.hid h1
  have HOK1 := Lib.hid ok1
  have HR := Lib.hid hR
  clear hA hok hy hR h1 ok1
  go_enter Try.func50, Try.ntmps50
  go_wp2_with fail
  refine H1.out.mono ?_
  rintro e w1 ⟨rfl, X1, hM1, hon1, hX1⟩
  have HM1 := Lib.hid hM1
  have HO1 := Lib.hid (And.intro hon1 hX1)
  clear hM1 hon1 hX1 H1
  cases B with
  | false =>
    have hb : bitI false = 0 := rfl
    rw [hb]
    have hR := HR.out
    simp only [if_true] at hR
    obtain ⟨⟨tv, z⟩, hz⟩ : ∃ q, Md.tree io (A + 2 + 8 * p) 3 (l - 2) y = q := ⟨_, rfl⟩
    obtain ⟨h2, htv, ok2⟩ := tree_is io HM1.out hz (len := 8) (cp := 8) (b := C) (off := 9 + A + 2 + p * 8) (k := k) (io.le HOK1.out (by omega)) (Md.seg_mid (by omega) (by have := HA.out; omega) (by have := HA.out; omega)) (by omega) (by omega) (by omega) (by omega)
    rw [hz] at hR
    injection hR with hR1 hR2
    have HRE := Lib.hid (And.intro hR1.symm hR2.symm)
    clear hR1 hR2
    have H2 := Lib.hid h2
    have htvi : (tv : Int) < 8 := by omega
    have HOK2 := Lib.hid ok2
    clear hz hb h2 ok2
    go_wp2_with fail
    refine H2.out.mono ?_
    rintro e w2 ⟨rfl, hw2⟩
    go_wp2_with fail
    go_ret
    obtain ⟨e1, e2⟩ := HRE.out
    subst e1 e2
    exact ⟨⟨by go_num, Went.trans HO1.out.1 HO1.out.2 hw2⟩, by omega, by omega, HOK2.out⟩
  | true =>
    have hb : bitI true = 1 := rfl
    rw [hb]
    have hR := HR.out
    simp only [Bool.true_eq_false, if_false] at hR
    obtain ⟨⟨B, y2⟩, hy⟩ : ∃ q, io.bitAt (A + 1) (decide (16 ≤ l - 2)) y = q := ⟨_, rfl⟩
    obtain ⟨h1, ok1⟩ := bit_is io HM1.out hy (at_ := A) (j := 1) (len := 2) (cp := 2) (b := C) (off := 9 + A) rfl (k := k + 8) HOK1.out (Md.seg_mid rfl (by have := HA.out; omega) (by have := HA.out; omega)) (by omega) (by omega) (by omega)
    rw [hy] at hR
    simp only at hR
    have H1 := Lib.hid h1
    have HOK1b := Lib.hid ok1
    have HRb := Lib.hid hR
    clear hy hR h1 ok1 hb
    go_wp2_with fail
    refine H1.out.mono ?_
    rintro e w2 ⟨rfl, hw2⟩
    obtain ⟨X2, hM2, hon2, hX2⟩ := Went.trans HO1.out.1 HO1.out.2 hw2
    have HM2 := Lib.hid hM2
    have HO2 := Lib.hid (And.intro hon2 hX2)
    clear hM2 hon2 hX2 H1 hw2
    cases B with
    | false =>
      have hb : bitI false = 0 := rfl
      rw [hb]
      have hR := HRb.out
      simp only [if_true] at hR
      obtain ⟨⟨tv, z⟩, hz⟩ : ∃ q, Md.tree io (A + 130 + 8 * p) 3 (l - 2 - 8) y2 = q := ⟨_, rfl⟩
      obtain ⟨h2, htv, ok2⟩ := tree_is io HM2.out hz (len := 8) (cp := 8) (b := C) (off := 9 + A + 130 + p * 8) (k := k) (io.le HOK1b.out (by omega)) (Md.seg_mid (by omega) (by have := HA.out; omega) (by have := HA.out; omega)) (by omega) (by omega) (by omega) (by omega)
      rw [hz] at hR
      injection hR with hR1 hR2
      have HRE := Lib.hid (And.intro hR1.symm hR2.symm)
      clear hR1 hR2
      have H2 := Lib.hid h2
      have htvi : (tv : Int) < 8 := by omega
      have HOK2 := Lib.hid ok2
      clear hz hb h2 ok2
      go_wp2_with fail
      refine H2.out.mono ?_
      rintro e w3 ⟨rfl, hw3⟩
      go_wp2_with fail
      go_ret
      obtain ⟨e1, e2⟩ := HRE.out
      subst e1 e2
      exact ⟨⟨by go_num, Went.trans HO2.out.1 HO2.out.2 hw3⟩, by omega, by omega, HOK2.out⟩
    | true =>
      have hb : bitI true = 1 := rfl
      rw [hb]
      have hR := HRb.out
      simp only [Bool.true_eq_false, if_false] at hR
      obtain ⟨⟨tv, z⟩, hz⟩ : ∃ q, Md.tree io (A + 258) 8 (l - 2 - 16) y2 = q := ⟨_, rfl⟩
      obtain ⟨h2, htv, ok2⟩ := tree_is io HM2.out hz (len := 256) (cp := 256) (b := C) (off := 9 + A + 258) (k := k) (io.le HOK1b.out (by omega)) (Md.seg_mid (by omega) (by have := HA.out; omega) (by have := HA.out; omega)) (by omega) (by omega) (by omega) (by omega)
      rw [hz] at hR
      injection hR with hR1 hR2
      have HRE := Lib.hid (And.intro hR1.symm hR2.symm)
      clear hR1 hR2
      have H2 := Lib.hid h2
      have htvi : (tv : Int) < 256 := by omega
      have HOK2 := Lib.hid ok2
      clear hz hb h2 ok2
      go_wp2_with fail
      refine H2.out.mono ?_
      rintro e w3 ⟨rfl, hw3⟩
      go_wp2_with fail
      go_ret
      obtain ⟨e1, e2⟩ := HRE.out
      subst e1 e2
      exact ⟨⟨by go_num, Went.trans HO2.out.1 HO2.out.2 hw3⟩, by omega, by omega, HOK2.out⟩
end Go.Proofs.Ytklkboplkobhgaa
