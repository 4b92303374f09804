/- The model's permits, State, Repeats, permitted. -/
import Derived.Test.YtkckjjchfccdjaaMdSym
import Derived.Test.YtkckjjchfccdjaaMg11
namespace Go.Proofs.Ytkckjjchfccdjaa
set_option maxRecDepth 100000
open Go.RowKit

theorem sy_box1 {w W1 : World} {v0 v1 v2 v3 v4 : Value} (h : w.alloc (.cells #[v0, v1, v2, v3, v4] 99) = W1) :
    W1.cell? ⟨w.heap.size, 0, none⟩ = some v0 ∧ W1.cell? ⟨w.heap.size, 1, none⟩ = some v1 ∧ W1.cell? ⟨w.heap.size, 2, none⟩ = some v2 ∧ W1.cell? ⟨w.heap.size, 3, none⟩ = some v3 ∧ W1.cell? ⟨w.heap.size, 4, none⟩ = some v4 ∧ Below w.heap.size w W1 := by
  have h0 : W1.heap[w.heap.size]? = some (.cells [v0, v1, v2, v3, v4].toArray 99 (0, 0)) := by rw [← h]; exact heap_alloc_last w _
  refine ⟨?_, ?_, ?_, ?_, ?_, by rw [← h]; exact (Below.refl _ _).alloc (Nat.le_refl _) _⟩ <;> (rw [cell_of_row W1 _ _ _ _ _ h0]; rfl)
set_option maxRecDepth 100000 in
set_option maxHeartbeats 8000000 in
theorem permits_any {C L lc lp pb st : Nat} {r : R4} {P : Nat → Nat} {w : World} (hM : ModAt w C L lc lp pb st r P) (A : Option Addr) (n c : Nat) (hn : n ≤ 1000000000) (k : Int) (b : UInt8) (l d q : Int) :
    Calls Try.prog 69 #[PF C, .slice A n c, SyV k b l d q] w (Tells (.bool (fitsZ r (n : Int) k l d q)) w) := by
  obtain ⟨R, hR⟩ : ∃ R, fitsZ r (n : Int) k l d q = R := ⟨_, rfl⟩
  rw [hR]
  have HR := Lib.hid hR
  clear hR
  have hmn : min (n : Int) 4294967295 = (n : Int) := by omega
  obtain ⟨_, _, _, _, m0, m1, m2, m3⟩ := hM.cells
  have HM := Lib.hid (And.intro m0 (And.intro m1 (And.intro m2 (And.intro m3 hM.clt))))
  have HNN := Lib.hid hn
  clear hM m0 m1 m2 m3 hn
  have hl : (l < 2 ∧ ¬ l = 1) ∨ l = 1 ∨ (2 ≤ l ∧ l ≤ 273) ∨ (2 ≤ l ∧ ¬ l ≤ 273) := by omega
  have hk : k = 0 ∨ k = 1 ∨ k = 2 ∨ (¬ k = 0 ∧ ¬ k = 1 ∧ ¬ k = 2) := by omega
  rcases hl with ⟨g1, g2⟩ | rfl | ⟨g1, g2⟩ | ⟨g1, g2⟩
  · skip
    have g1n : ¬ (2 : Int) ≤ l := by omega
    have g2b : (l == 1) = false := by rw [beq_eq_false_iff_ne]; exact g2
    have hlf : ¬ (2 ≤ l ∧ l ≤ 273) := by omega
    rcases hk with rfl | rfl | rfl | ⟨k0, k1, k2⟩
    · skip
      have HRv : Hid (R = true) := Lib.hid (by rw [← HR.out]; unfold fitsZ; simp)
      clear HR
      go_enter Try.func69, Try.ntmps69
      go_wp2_with fail
      go_ret
      exact ⟨by rw [HRv.out]; rfl, (Below.refl _ _).alloc (Nat.le_refl _) _⟩
    · skip
      have HRv : Hid (R = false) := Lib.hid (by rw [← HR.out]; unfold fitsZ; simp; omega)
      clear HR
      go_enter Try.func69, Try.ntmps69
      go_wp2_with fail
      go_ret
      exact ⟨by rw [HRv.out]; rfl, (Below.refl _ _).alloc (Nat.le_refl _) _⟩
    · have hq : q < 0 ∨ 4 ≤ q ∨ q = 0 ∨ q = 1 ∨ q = 2 ∨ q = 3 := by omega
      rcases hq with q0 | q4 | rfl | rfl | rfl | rfl
      · have q0n : ¬ (0 : Int) ≤ q := by omega
        have HRv : Hid (R = false) := Lib.hid (by rw [← HR.out]; unfold fitsZ; simp; omega)
        clear HR
        go_enter Try.func69, Try.ntmps69
        go_upto_region 8 with fail
        obtain ⟨W1, hW1⟩ : ∃ W1, w.alloc (.cells #[.int .i64 2, .int .u8 (b.toNat : Nat), .int .i64 l, .int .i64 d, .int .i64 q] 99) = W1 := ⟨_, rfl⟩
        rw [hW1]
        obtain ⟨y0, y1, y2, y3, y4, hbb⟩ := sy_box1 hW1
        have HBB := Lib.hid hbb
        have m0 := (hbb.cell (p := ⟨C, 4, none⟩) HM.out.2.2.2.2).trans HM.out.1
        have m1 := (hbb.cell (p := ⟨C, 5, none⟩) HM.out.2.2.2.2).trans HM.out.2.1
        have m2 := (hbb.cell (p := ⟨C, 6, none⟩) HM.out.2.2.2.2).trans HM.out.2.2.1
        have m3 := (hbb.cell (p := ⟨C, 7, none⟩) HM.out.2.2.2.2).trans HM.out.2.2.2.1
        clear hbb hW1
        go_quiet (fail)
        go_wp2_with fail
        go_ret
        exact ⟨by rw [HRv.out]; rfl, below_drewN HBB.out _⟩
      · have q4n : ¬ q < 4 := by omega
        have q4m : (0 : Int) ≤ q := by omega
        have HRv : Hid (R = false) := Lib.hid (by rw [← HR.out]; unfold fitsZ; simp; omega)
        clear HR
        go_enter Try.func69, Try.ntmps69
        go_upto_region 8 with fail
        obtain ⟨W1, hW1⟩ : ∃ W1, w.alloc (.cells #[.int .i64 2, .int .u8 (b.toNat : Nat), .int .i64 l, .int .i64 d, .int .i64 q] 99) = W1 := ⟨_, rfl⟩
        rw [hW1]
        obtain ⟨y0, y1, y2, y3, y4, hbb⟩ := sy_box1 hW1
        have HBB := Lib.hid hbb
        have m0 := (hbb.cell (p := ⟨C, 4, none⟩) HM.out.2.2.2.2).trans HM.out.1
        have m1 := (hbb.cell (p := ⟨C, 5, none⟩) HM.out.2.2.2.2).trans HM.out.2.1
        have m2 := (hbb.cell (p := ⟨C, 6, none⟩) HM.out.2.2.2.2).trans HM.out.2.2.1
        have m3 := (hbb.cell (p := ⟨C, 7, none⟩) HM.out.2.2.2.2).trans HM.out.2.2.2.1
        clear hbb hW1
        go_quiet (fail)
        go_wp2_with fail
        go_ret
        exact ⟨by rw [HRv.out]; rfl, below_drewN HBB.out _⟩
      · have hra : rAt r 0 = r.1 := rfl
        by_cases gn : r.1 ≤ (n : Int)
        · skip
          have HRv : Hid (R = false) := Lib.hid (by rw [← HR.out]; unfold fitsZ; rw [hra]; simp; omega)
          clear HR
          go_enter Try.func69, Try.ntmps69
          go_upto_region 8 with fail
          obtain ⟨W1, hW1⟩ : ∃ W1, w.alloc (.cells #[.int .i64 2, .int .u8 (b.toNat : Nat), .int .i64 l, .int .i64 d, .int .i64 0] 99) = W1 := ⟨_, rfl⟩
          rw [hW1]
          obtain ⟨y0, y1, y2, y3, y4, hbb⟩ := sy_box1 hW1
          have HBB := Lib.hid hbb
          have m0 := (hbb.cell (p := ⟨C, 4, none⟩) HM.out.2.2.2.2).trans HM.out.1
          have m1 := (hbb.cell (p := ⟨C, 5, none⟩) HM.out.2.2.2.2).trans HM.out.2.1
          have m2 := (hbb.cell (p := ⟨C, 6, none⟩) HM.out.2.2.2.2).trans HM.out.2.2.1
          have m3 := (hbb.cell (p := ⟨C, 7, none⟩) HM.out.2.2.2.2).trans HM.out.2.2.2.1
          clear hbb hW1
          go_quiet (fail)
          go_wp2_with fail
          go_ret
          exact ⟨by rw [HRv.out]; rfl, below_drewN HBB.out _⟩
        · skip
          have HRv : Hid (R = false) := Lib.hid (by rw [← HR.out]; unfold fitsZ; rw [hra]; simp; omega)
          clear HR
          go_enter Try.func69, Try.ntmps69
          go_upto_region 8 with fail
          obtain ⟨W1, hW1⟩ : ∃ W1, w.alloc (.cells #[.int .i64 2, .int .u8 (b.toNat : Nat), .int .i64 l, .int .i64 d, .int .i64 0] 99) = W1 := ⟨_, rfl⟩
          rw [hW1]
          obtain ⟨y0, y1, y2, y3, y4, hbb⟩ := sy_box1 hW1
          have HBB := Lib.hid hbb
          have m0 := (hbb.cell (p := ⟨C, 4, none⟩) HM.out.2.2.2.2).trans HM.out.1
          have m1 := (hbb.cell (p := ⟨C, 5, none⟩) HM.out.2.2.2.2).trans HM.out.2.1
          have m2 := (hbb.cell (p := ⟨C, 6, none⟩) HM.out.2.2.2.2).trans HM.out.2.2.1
          have m3 := (hbb.cell (p := ⟨C, 7, none⟩) HM.out.2.2.2.2).trans HM.out.2.2.2.1
          clear hbb hW1
          go_quiet (fail)
          go_wp2_with fail
          go_ret
          exact ⟨by rw [HRv.out]; rfl, below_drewN HBB.out _⟩
      · have hra : rAt r 1 = r.2.1 := rfl
        by_cases gn : r.2.1 ≤ (n : Int)
        · skip
          have HRv : Hid (R = false) := Lib.hid (by rw [← HR.out]; unfold fitsZ; rw [hra]; simp; omega)
          clear HR
          go_enter Try.func69, Try.ntmps69
          go_upto_region 8 with fail
          obtain ⟨W1, hW1⟩ : ∃ W1, w.alloc (.cells #[.int .i64 2, .int .u8 (b.toNat : Nat), .int .i64 l, .int .i64 d, .int .i64 1] 99) = W1 := ⟨_, rfl⟩
          rw [hW1]
          obtain ⟨y0, y1, y2, y3, y4, hbb⟩ := sy_box1 hW1
          have HBB := Lib.hid hbb
          have m0 := (hbb.cell (p := ⟨C, 4, none⟩) HM.out.2.2.2.2).trans HM.out.1
          have m1 := (hbb.cell (p := ⟨C, 5, none⟩) HM.out.2.2.2.2).trans HM.out.2.1
          have m2 := (hbb.cell (p := ⟨C, 6, none⟩) HM.out.2.2.2.2).trans HM.out.2.2.1
          have m3 := (hbb.cell (p := ⟨C, 7, none⟩) HM.out.2.2.2.2).trans HM.out.2.2.2.1
          clear hbb hW1
          go_quiet (fail)
          go_wp2_with fail
          go_ret
          exact ⟨by rw [HRv.out]; rfl, below_drewN HBB.out _⟩
        · skip
          have HRv : Hid (R = false) := Lib.hid (by rw [← HR.out]; unfold fitsZ; rw [hra]; simp; omega)
          clear HR
          go_enter Try.func69, Try.ntmps69
          go_upto_region 8 with fail
          obtain ⟨W1, hW1⟩ : ∃ W1, w.alloc (.cells #[.int .i64 2, .int .u8 (b.toNat : Nat), .int .i64 l, .int .i64 d, .int .i64 1] 99) = W1 := ⟨_, rfl⟩
          rw [hW1]
          obtain ⟨y0, y1, y2, y3, y4, hbb⟩ := sy_box1 hW1
          have HBB := Lib.hid hbb
          have m0 := (hbb.cell (p := ⟨C, 4, none⟩) HM.out.2.2.2.2).trans HM.out.1
          have m1 := (hbb.cell (p := ⟨C, 5, none⟩) HM.out.2.2.2.2).trans HM.out.2.1
          have m2 := (hbb.cell (p := ⟨C, 6, none⟩) HM.out.2.2.2.2).trans HM.out.2.2.1
          have m3 := (hbb.cell (p := ⟨C, 7, none⟩) HM.out.2.2.2.2).trans HM.out.2.2.2.1
          clear hbb hW1
          go_quiet (fail)
          go_wp2_with fail
          go_ret
          exact ⟨by rw [HRv.out]; rfl, below_drewN HBB.out _⟩
      · have hra : rAt r 2 = r.2.2.1 := rfl
        by_cases gn : r.2.2.1 ≤ (n : Int)
        · skip
          have HRv : Hid (R = false) := Lib.hid (by rw [← HR.out]; unfold fitsZ; rw [hra]; simp; omega)
          clear HR
          go_enter Try.func69, Try.ntmps69
          go_upto_region 8 with fail
          obtain ⟨W1, hW1⟩ : ∃ W1, w.alloc (.cells #[.int .i64 2, .int .u8 (b.toNat : Nat), .int .i64 l, .int .i64 d, .int .i64 2] 99) = W1 := ⟨_, rfl⟩
          rw [hW1]
          obtain ⟨y0, y1, y2, y3, y4, hbb⟩ := sy_box1 hW1
          have HBB := Lib.hid hbb
          have m0 := (hbb.cell (p := ⟨C, 4, none⟩) HM.out.2.2.2.2).trans HM.out.1
          have m1 := (hbb.cell (p := ⟨C, 5, none⟩) HM.out.2.2.2.2).trans HM.out.2.1
          have m2 := (hbb.cell (p := ⟨C, 6, none⟩) HM.out.2.2.2.2).trans HM.out.2.2.1
          have m3 := (hbb.cell (p := ⟨C, 7, none⟩) HM.out.2.2.2.2).trans HM.out.2.2.2.1
          clear hbb hW1
          go_quiet (fail)
          go_wp2_with fail
          go_ret
          exact ⟨by rw [HRv.out]; rfl, below_drewN HBB.out _⟩
        · skip
          have HRv : Hid (R = false) := Lib.hid (by rw [← HR.out]; unfold fitsZ; rw [hra]; simp; omega)
          clear HR
          go_enter Try.func69, Try.ntmps69
          go_upto_region 8 with fail
          obtain ⟨W1, hW1⟩ : ∃ W1, w.alloc (.cells #[.int .i64 2, .int .u8 (b.toNat : Nat), .int .i64 l, .int .i64 d, .int .i64 2] 99) = W1 := ⟨_, rfl⟩
          rw [hW1]
          obtain ⟨y0, y1, y2, y3, y4, hbb⟩ := sy_box1 hW1
          have HBB := Lib.hid hbb
          have m0 := (hbb.cell (p := ⟨C, 4, none⟩) HM.out.2.2.2.2).trans HM.out.1
          have m1 := (hbb.cell (p := ⟨C, 5, none⟩) HM.out.2.2.2.2).trans HM.out.2.1
          have m2 := (hbb.cell (p := ⟨C, 6, none⟩) HM.out.2.2.2.2).trans HM.out.2.2.1
          have m3 := (hbb.cell (p := ⟨C, 7, none⟩) HM.out.2.2.2.2).trans HM.out.2.2.2.1
          clear hbb hW1
          go_quiet (fail)
          go_wp2_with fail
          go_ret
          exact ⟨by rw [HRv.out]; rfl, below_drewN HBB.out _⟩
      · have hra : rAt r 3 = r.2.2.2 := rfl
        by_cases gn : r.2.2.2 ≤ (n : Int)
        · skip
          have HRv : Hid (R = false) := Lib.hid (by rw [← HR.out]; unfold fitsZ; rw [hra]; simp; omega)
          clear HR
          go_enter Try.func69, Try.ntmps69
          go_upto_region 8 with fail
          obtain ⟨W1, hW1⟩ : ∃ W1, w.alloc (.cells #[.int .i64 2, .int .u8 (b.toNat : Nat), .int .i64 l, .int .i64 d, .int .i64 3] 99) = W1 := ⟨_, rfl⟩
          rw [hW1]
          obtain ⟨y0, y1, y2, y3, y4, hbb⟩ := sy_box1 hW1
          have HBB := Lib.hid hbb
          have m0 := (hbb.cell (p := ⟨C, 4, none⟩) HM.out.2.2.2.2).trans HM.out.1
          have m1 := (hbb.cell (p := ⟨C, 5, none⟩) HM.out.2.2.2.2).trans HM.out.2.1
          have m2 := (hbb.cell (p := ⟨C, 6, none⟩) HM.out.2.2.2.2).trans HM.out.2.2.1
          have m3 := (hbb.cell (p := ⟨C, 7, none⟩) HM.out.2.2.2.2).trans HM.out.2.2.2.1
          clear hbb hW1
          go_quiet (fail)
          go_wp2_with fail
          go_ret
          exact ⟨by rw [HRv.out]; rfl, below_drewN HBB.out _⟩
        · skip
          have HRv : Hid (R = false) := Lib.hid (by rw [← HR.out]; unfold fitsZ; rw [hra]; simp; omega)
          clear HR
          go_enter Try.func69, Try.ntmps69
          go_upto_region 8 with fail
          obtain ⟨W1, hW1⟩ : ∃ W1, w.alloc (.cells #[.int .i64 2, .int .u8 (b.toNat : Nat), .int .i64 l, .int .i64 d, .int .i64 3] 99) = W1 := ⟨_, rfl⟩
          rw [hW1]
          obtain ⟨y0, y1, y2, y3, y4, hbb⟩ := sy_box1 hW1
          have HBB := Lib.hid hbb
          have m0 := (hbb.cell (p := ⟨C, 4, none⟩) HM.out.2.2.2.2).trans HM.out.1
          have m1 := (hbb.cell (p := ⟨C, 5, none⟩) HM.out.2.2.2.2).trans HM.out.2.1
          have m2 := (hbb.cell (p := ⟨C, 6, none⟩) HM.out.2.2.2.2).trans HM.out.2.2.1
          have m3 := (hbb.cell (p := ⟨C, 7, none⟩) HM.out.2.2.2.2).trans HM.out.2.2.2.1
          clear hbb hW1
          go_quiet (fail)
          go_wp2_with fail
          go_ret
          exact ⟨by rw [HRv.out]; rfl, below_drewN HBB.out _⟩
    · have k0b : (k == 0) = false := by rw [beq_eq_false_iff_ne]; exact k0
      have k1b : (k == 1) = false := by rw [beq_eq_false_iff_ne]; exact k1
      have k2b : (k == 2) = false := by rw [beq_eq_false_iff_ne]; exact k2
      have HRv : Hid (R = false) := Lib.hid (by rw [← HR.out]; unfold fitsZ; rw [if_neg k1, if_neg k2]; simp [k0])
      clear HR
      go_enter Try.func69, Try.ntmps69
      go_wp2_with fail
      go_ret
      exact ⟨by rw [HRv.out]; rfl, (Below.refl _ _).alloc (Nat.le_refl _) _⟩
  · skip
    rcases hk with rfl | rfl | rfl | ⟨k0, k1, k2⟩
    · skip
      have HRv : Hid (R = true) := Lib.hid (by rw [← HR.out]; unfold fitsZ; simp)
      clear HR
      go_enter Try.func69, Try.ntmps69
      go_wp2_with fail
      go_ret
      exact ⟨by rw [HRv.out]; rfl, (Below.refl _ _).alloc (Nat.le_refl _) _⟩
    · skip
      have HRv : Hid (R = false) := Lib.hid (by rw [← HR.out]; unfold fitsZ; simp)
      clear HR
      go_enter Try.func69, Try.ntmps69
      go_wp2_with fail
      go_ret
      exact ⟨by rw [HRv.out]; rfl, (Below.refl _ _).alloc (Nat.le_refl _) _⟩
    · have hq : q < 0 ∨ 4 ≤ q ∨ q = 0 ∨ q = 1 ∨ q = 2 ∨ q = 3 := by omega
      rcases hq with q0 | q4 | rfl | rfl | rfl | rfl
      · have q0n : ¬ (0 : Int) ≤ q := by omega
        have HRv : Hid (R = false) := Lib.hid (by rw [← HR.out]; unfold fitsZ; simp; omega)
        clear HR
        go_enter Try.func69, Try.ntmps69
        go_upto_region 8 with fail
        obtain ⟨W1, hW1⟩ : ∃ W1, w.alloc (.cells #[.int .i64 2, .int .u8 (b.toNat : Nat), .int .i64 1, .int .i64 d, .int .i64 q] 99) = W1 := ⟨_, rfl⟩
        rw [hW1]
        obtain ⟨y0, y1, y2, y3, y4, hbb⟩ := sy_box1 hW1
        have HBB := Lib.hid hbb
        have m0 := (hbb.cell (p := ⟨C, 4, none⟩) HM.out.2.2.2.2).trans HM.out.1
        have m1 := (hbb.cell (p := ⟨C, 5, none⟩) HM.out.2.2.2.2).trans HM.out.2.1
        have m2 := (hbb.cell (p := ⟨C, 6, none⟩) HM.out.2.2.2.2).trans HM.out.2.2.1
        have m3 := (hbb.cell (p := ⟨C, 7, none⟩) HM.out.2.2.2.2).trans HM.out.2.2.2.1
        clear hbb hW1
        go_quiet (fail)
        go_wp2_with fail
        go_ret
        exact ⟨by rw [HRv.out]; rfl, below_drewN HBB.out _⟩
      · have q4n : ¬ q < 4 := by omega
        have q4m : (0 : Int) ≤ q := by omega
        have HRv : Hid (R = false) := Lib.hid (by rw [← HR.out]; unfold fitsZ; simp; omega)
        clear HR
        go_enter Try.func69, Try.ntmps69
        go_upto_region 8 with fail
        obtain ⟨W1, hW1⟩ : ∃ W1, w.alloc (.cells #[.int .i64 2, .int .u8 (b.toNat : Nat), .int .i64 1, .int .i64 d, .int .i64 q] 99) = W1 := ⟨_, rfl⟩
        rw [hW1]
        obtain ⟨y0, y1, y2, y3, y4, hbb⟩ := sy_box1 hW1
        have HBB := Lib.hid hbb
        have m0 := (hbb.cell (p := ⟨C, 4, none⟩) HM.out.2.2.2.2).trans HM.out.1
        have m1 := (hbb.cell (p := ⟨C, 5, none⟩) HM.out.2.2.2.2).trans HM.out.2.1
        have m2 := (hbb.cell (p := ⟨C, 6, none⟩) HM.out.2.2.2.2).trans HM.out.2.2.1
        have m3 := (hbb.cell (p := ⟨C, 7, none⟩) HM.out.2.2.2.2).trans HM.out.2.2.2.1
        clear hbb hW1
        go_quiet (fail)
        go_wp2_with fail
        go_ret
        exact ⟨by rw [HRv.out]; rfl, below_drewN HBB.out _⟩
      · have hra : rAt r 0 = r.1 := rfl
        by_cases gn : r.1 ≤ (n : Int)
        · skip
          have HRv : Hid (R = true) := Lib.hid (by rw [← HR.out]; unfold fitsZ; rw [hra]; simp; omega)
          clear HR
          go_enter Try.func69, Try.ntmps69
          go_upto_region 8 with fail
          obtain ⟨W1, hW1⟩ : ∃ W1, w.alloc (.cells #[.int .i64 2, .int .u8 (b.toNat : Nat), .int .i64 1, .int .i64 d, .int .i64 0] 99) = W1 := ⟨_, rfl⟩
          rw [hW1]
          obtain ⟨y0, y1, y2, y3, y4, hbb⟩ := sy_box1 hW1
          have HBB := Lib.hid hbb
          have m0 := (hbb.cell (p := ⟨C, 4, none⟩) HM.out.2.2.2.2).trans HM.out.1
          have m1 := (hbb.cell (p := ⟨C, 5, none⟩) HM.out.2.2.2.2).trans HM.out.2.1
          have m2 := (hbb.cell (p := ⟨C, 6, none⟩) HM.out.2.2.2.2).trans HM.out.2.2.1
          have m3 := (hbb.cell (p := ⟨C, 7, none⟩) HM.out.2.2.2.2).trans HM.out.2.2.2.1
          clear hbb hW1
          go_quiet (fail)
          go_wp2_with fail
          go_ret
          exact ⟨by rw [HRv.out]; rfl, below_drewN HBB.out _⟩
        · skip
          have HRv : Hid (R = false) := Lib.hid (by rw [← HR.out]; unfold fitsZ; rw [hra]; simp; omega)
          clear HR
          go_enter Try.func69, Try.ntmps69
          go_upto_region 8 with fail
          obtain ⟨W1, hW1⟩ : ∃ W1, w.alloc (.cells #[.int .i64 2, .int .u8 (b.toNat : Nat), .int .i64 1, .int .i64 d, .int .i64 0] 99) = W1 := ⟨_, rfl⟩
          rw [hW1]
          obtain ⟨y0, y1, y2, y3, y4, hbb⟩ := sy_box1 hW1
          have HBB := Lib.hid hbb
          have m0 := (hbb.cell (p := ⟨C, 4, none⟩) HM.out.2.2.2.2).trans HM.out.1
          have m1 := (hbb.cell (p := ⟨C, 5, none⟩) HM.out.2.2.2.2).trans HM.out.2.1
          have m2 := (hbb.cell (p := ⟨C, 6, none⟩) HM.out.2.2.2.2).trans HM.out.2.2.1
          have m3 := (hbb.cell (p := ⟨C, 7, none⟩) HM.out.2.2.2.2).trans HM.out.2.2.2.1
          clear hbb hW1
          go_quiet (fail)
          go_wp2_with fail
          go_ret
          exact ⟨by rw [HRv.out]; rfl, below_drewN HBB.out _⟩
      · have hra : rAt r 1 = r.2.1 := rfl
        by_cases gn : r.2.1 ≤ (n : Int)
        · skip
          have HRv : Hid (R = false) := Lib.hid (by rw [← HR.out]; unfold fitsZ; rw [hra]; simp)
          clear HR
          go_enter Try.func69, Try.ntmps69
          go_upto_region 8 with fail
          obtain ⟨W1, hW1⟩ : ∃ W1, w.alloc (.cells #[.int .i64 2, .int .u8 (b.toNat : Nat), .int .i64 1, .int .i64 d, .int .i64 1] 99) = W1 := ⟨_, rfl⟩
          rw [hW1]
          obtain ⟨y0, y1, y2, y3, y4, hbb⟩ := sy_box1 hW1
          have HBB := Lib.hid hbb
          have m0 := (hbb.cell (p := ⟨C, 4, none⟩) HM.out.2.2.2.2).trans HM.out.1
          have m1 := (hbb.cell (p := ⟨C, 5, none⟩) HM.out.2.2.2.2).trans HM.out.2.1
          have m2 := (hbb.cell (p := ⟨C, 6, none⟩) HM.out.2.2.2.2).trans HM.out.2.2.1
          have m3 := (hbb.cell (p := ⟨C, 7, none⟩) HM.out.2.2.2.2).trans HM.out.2.2.2.1
          clear hbb hW1
          go_quiet (fail)
          go_wp2_with fail
          go_ret
          exact ⟨by rw [HRv.out]; rfl, below_drewN HBB.out _⟩
        · skip
          have HRv : Hid (R = false) := Lib.hid (by rw [← HR.out]; unfold fitsZ; rw [hra]; simp)
          clear HR
          go_enter Try.func69, Try.ntmps69
          go_upto_region 8 with fail
          obtain ⟨W1, hW1⟩ : ∃ W1, w.alloc (.cells #[.int .i64 2, .int .u8 (b.toNat : Nat), .int .i64 1, .int .i64 d, .int .i64 1] 99) = W1 := ⟨_, rfl⟩
          rw [hW1]
          obtain ⟨y0, y1, y2, y3, y4, hbb⟩ := sy_box1 hW1
          have HBB := Lib.hid hbb
          have m0 := (hbb.cell (p := ⟨C, 4, none⟩) HM.out.2.2.2.2).trans HM.out.1
          have m1 := (hbb.cell (p := ⟨C, 5, none⟩) HM.out.2.2.2.2).trans HM.out.2.1
          have m2 := (hbb.cell (p := ⟨C, 6, none⟩) HM.out.2.2.2.2).trans HM.out.2.2.1
          have m3 := (hbb.cell (p := ⟨C, 7, none⟩) HM.out.2.2.2.2).trans HM.out.2.2.2.1
          clear hbb hW1
          go_quiet (fail)
          go_wp2_with fail
          go_ret
          exact ⟨by rw [HRv.out]; rfl, below_drewN HBB.out _⟩
      · have hra : rAt r 2 = r.2.2.1 := rfl
        by_cases gn : r.2.2.1 ≤ (n : Int)
        · skip
          have HRv : Hid (R = false) := Lib.hid (by rw [← HR.out]; unfold fitsZ; rw [hra]; simp)
          clear HR
          go_enter Try.func69, Try.ntmps69
          go_upto_region 8 with fail
          obtain ⟨W1, hW1⟩ : ∃ W1, w.alloc (.cells #[.int .i64 2, .int .u8 (b.toNat : Nat), .int .i64 1, .int .i64 d, .int .i64 2] 99) = W1 := ⟨_, rfl⟩
          rw [hW1]
          obtain ⟨y0, y1, y2, y3, y4, hbb⟩ := sy_box1 hW1
          have HBB := Lib.hid hbb
          have m0 := (hbb.cell (p := ⟨C, 4, none⟩) HM.out.2.2.2.2).trans HM.out.1
          have m1 := (hbb.cell (p := ⟨C, 5, none⟩) HM.out.2.2.2.2).trans HM.out.2.1
          have m2 := (hbb.cell (p := ⟨C, 6, none⟩) HM.out.2.2.2.2).trans HM.out.2.2.1
          have m3 := (hbb.cell (p := ⟨C, 7, none⟩) HM.out.2.2.2.2).trans HM.out.2.2.2.1
          clear hbb hW1
          go_quiet (fail)
          go_wp2_with fail
          go_ret
          exact ⟨by rw [HRv.out]; rfl, below_drewN HBB.out _⟩
        · skip
          have HRv : Hid (R = false) := Lib.hid (by rw [← HR.out]; unfold fitsZ; rw [hra]; simp)
          clear HR
          go_enter Try.func69, Try.ntmps69
          go_upto_region 8 with fail
          obtain ⟨W1, hW1⟩ : ∃ W1, w.alloc (.cells #[.int .i64 2, .int .u8 (b.toNat : Nat), .int .i64 1, .int .i64 d, .int .i64 2] 99) = W1 := ⟨_, rfl⟩
          rw [hW1]
          obtain ⟨y0, y1, y2, y3, y4, hbb⟩ := sy_box1 hW1
          have HBB := Lib.hid hbb
          have m0 := (hbb.cell (p := ⟨C, 4, none⟩) HM.out.2.2.2.2).trans HM.out.1
          have m1 := (hbb.cell (p := ⟨C, 5, none⟩) HM.out.2.2.2.2).trans HM.out.2.1
          have m2 := (hbb.cell (p := ⟨C, 6, none⟩) HM.out.2.2.2.2).trans HM.out.2.2.1
          have m3 := (hbb.cell (p := ⟨C, 7, none⟩) HM.out.2.2.2.2).trans HM.out.2.2.2.1
          clear hbb hW1
          go_quiet (fail)
          go_wp2_with fail
          go_ret
          exact ⟨by rw [HRv.out]; rfl, below_drewN HBB.out _⟩
      · have hra : rAt r 3 = r.2.2.2 := rfl
        by_cases gn : r.2.2.2 ≤ (n : Int)
        · skip
          have HRv : Hid (R = false) := Lib.hid (by rw [← HR.out]; unfold fitsZ; rw [hra]; simp)
          clear HR
          go_enter Try.func69, Try.ntmps69
          go_upto_region 8 with fail
          obtain ⟨W1, hW1⟩ : ∃ W1, w.alloc (.cells #[.int .i64 2, .int .u8 (b.toNat : Nat), .int .i64 1, .int .i64 d, .int .i64 3] 99) = W1 := ⟨_, rfl⟩
          rw [hW1]
          obtain ⟨y0, y1, y2, y3, y4, hbb⟩ := sy_box1 hW1
          have HBB := Lib.hid hbb
          have m0 := (hbb.cell (p := ⟨C, 4, none⟩) HM.out.2.2.2.2).trans HM.out.1
          have m1 := (hbb.cell (p := ⟨C, 5, none⟩) HM.out.2.2.2.2).trans HM.out.2.1
          have m2 := (hbb.cell (p := ⟨C, 6, none⟩) HM.out.2.2.2.2).trans HM.out.2.2.1
          have m3 := (hbb.cell (p := ⟨C, 7, none⟩) HM.out.2.2.2.2).trans HM.out.2.2.2.1
          clear hbb hW1
          go_quiet (fail)
          go_wp2_with fail
          go_ret
          exact ⟨by rw [HRv.out]; rfl, below_drewN HBB.out _⟩
        · skip
          have HRv : Hid (R = false) := Lib.hid (by rw [← HR.out]; unfold fitsZ; rw [hra]; simp)
          clear HR
          go_enter Try.func69, Try.ntmps69
          go_upto_region 8 with fail
          obtain ⟨W1, hW1⟩ : ∃ W1, w.alloc (.cells #[.int .i64 2, .int .u8 (b.toNat : Nat), .int .i64 1, .int .i64 d, .int .i64 3] 99) = W1 := ⟨_, rfl⟩
          rw [hW1]
          obtain ⟨y0, y1, y2, y3, y4, hbb⟩ := sy_box1 hW1
          have HBB := Lib.hid hbb
          have m0 := (hbb.cell (p := ⟨C, 4, none⟩) HM.out.2.2.2.2).trans HM.out.1
          have m1 := (hbb.cell (p := ⟨C, 5, none⟩) HM.out.2.2.2.2).trans HM.out.2.1
          have m2 := (hbb.cell (p := ⟨C, 6, none⟩) HM.out.2.2.2.2).trans HM.out.2.2.1
          have m3 := (hbb.cell (p := ⟨C, 7, none⟩) HM.out.2.2.2.2).trans HM.out.2.2.2.1
          clear hbb hW1
          go_quiet (fail)
          go_wp2_with fail
          go_ret
          exact ⟨by rw [HRv.out]; rfl, below_drewN HBB.out _⟩
    · have k0b : (k == 0) = false := by rw [beq_eq_false_iff_ne]; exact k0
      have k1b : (k == 1) = false := by rw [beq_eq_false_iff_ne]; exact k1
      have k2b : (k == 2) = false := by rw [beq_eq_false_iff_ne]; exact k2
      have HRv : Hid (R = false) := Lib.hid (by rw [← HR.out]; unfold fitsZ; rw [if_neg k1, if_neg k2]; simp [k0])
      clear HR
      go_enter Try.func69, Try.ntmps69
      go_wp2_with fail
      go_ret
      exact ⟨by rw [HRv.out]; rfl, (Below.refl _ _).alloc (Nat.le_refl _) _⟩
  · skip
    have g3b : (l == 1) = false := by rw [beq_eq_false_iff_ne]; omega
    rcases hk with rfl | rfl | rfl | ⟨k0, k1, k2⟩
    · skip
      have HRv : Hid (R = true) := Lib.hid (by rw [← HR.out]; unfold fitsZ; simp)
      clear HR
      go_enter Try.func69, Try.ntmps69
      go_wp2_with fail
      go_ret
      exact ⟨by rw [HRv.out]; rfl, (Below.refl _ _).alloc (Nat.le_refl _) _⟩
    · by_cases hd : 1 ≤ d
      · skip
        have HRv : Hid (R = decide (d ≤ (n : Int))) := Lib.hid (by rw [← HR.out]; unfold fitsZ; rw [if_pos rfl]; exact decide_eq_decide.2 (by have := HNN.out; omega))
        clear HR
        go_enter Try.func69, Try.ntmps69
        go_wp2_with fail
        go_ret
        exact ⟨by rw [HRv.out]; rfl, (Below.refl _ _).alloc (Nat.le_refl _) _⟩
      · skip
        have HRv : Hid (R = false) := Lib.hid (by rw [← HR.out]; unfold fitsZ; simp; omega)
        clear HR
        go_enter Try.func69, Try.ntmps69
        go_wp2_with fail
        go_ret
        exact ⟨by rw [HRv.out]; rfl, (Below.refl _ _).alloc (Nat.le_refl _) _⟩
    · have hq : q < 0 ∨ 4 ≤ q ∨ q = 0 ∨ q = 1 ∨ q = 2 ∨ q = 3 := by omega
      rcases hq with q0 | q4 | rfl | rfl | rfl | rfl
      · have q0n : ¬ (0 : Int) ≤ q := by omega
        have HRv : Hid (R = false) := Lib.hid (by rw [← HR.out]; unfold fitsZ; simp; omega)
        clear HR
        go_enter Try.func69, Try.ntmps69
        go_upto_region 8 with fail
        obtain ⟨W1, hW1⟩ : ∃ W1, w.alloc (.cells #[.int .i64 2, .int .u8 (b.toNat : Nat), .int .i64 l, .int .i64 d, .int .i64 q] 99) = W1 := ⟨_, rfl⟩
        rw [hW1]
        obtain ⟨y0, y1, y2, y3, y4, hbb⟩ := sy_box1 hW1
        have HBB := Lib.hid hbb
        have m0 := (hbb.cell (p := ⟨C, 4, none⟩) HM.out.2.2.2.2).trans HM.out.1
        have m1 := (hbb.cell (p := ⟨C, 5, none⟩) HM.out.2.2.2.2).trans HM.out.2.1
        have m2 := (hbb.cell (p := ⟨C, 6, none⟩) HM.out.2.2.2.2).trans HM.out.2.2.1
        have m3 := (hbb.cell (p := ⟨C, 7, none⟩) HM.out.2.2.2.2).trans HM.out.2.2.2.1
        clear hbb hW1
        go_quiet (fail)
        go_wp2_with fail
        go_ret
        exact ⟨by rw [HRv.out]; rfl, below_drewN HBB.out _⟩
      · have q4n : ¬ q < 4 := by omega
        have q4m : (0 : Int) ≤ q := by omega
        have HRv : Hid (R = false) := Lib.hid (by rw [← HR.out]; unfold fitsZ; simp; omega)
        clear HR
        go_enter Try.func69, Try.ntmps69
        go_upto_region 8 with fail
        obtain ⟨W1, hW1⟩ : ∃ W1, w.alloc (.cells #[.int .i64 2, .int .u8 (b.toNat : Nat), .int .i64 l, .int .i64 d, .int .i64 q] 99) = W1 := ⟨_, rfl⟩
        rw [hW1]
        obtain ⟨y0, y1, y2, y3, y4, hbb⟩ := sy_box1 hW1
        have HBB := Lib.hid hbb
        have m0 := (hbb.cell (p := ⟨C, 4, none⟩) HM.out.2.2.2.2).trans HM.out.1
        have m1 := (hbb.cell (p := ⟨C, 5, none⟩) HM.out.2.2.2.2).trans HM.out.2.1
        have m2 := (hbb.cell (p := ⟨C, 6, none⟩) HM.out.2.2.2.2).trans HM.out.2.2.1
        have m3 := (hbb.cell (p := ⟨C, 7, none⟩) HM.out.2.2.2.2).trans HM.out.2.2.2.1
        clear hbb hW1
        go_quiet (fail)
        go_wp2_with fail
        go_ret
        exact ⟨by rw [HRv.out]; rfl, below_drewN HBB.out _⟩
      · have hra : rAt r 0 = r.1 := rfl
        by_cases gn : r.1 ≤ (n : Int)
        · skip
          have HRv : Hid (R = true) := Lib.hid (by rw [← HR.out]; unfold fitsZ; rw [hra]; simp; omega)
          clear HR
          go_enter Try.func69, Try.ntmps69
          go_upto_region 8 with fail
          obtain ⟨W1, hW1⟩ : ∃ W1, w.alloc (.cells #[.int .i64 2, .int .u8 (b.toNat : Nat), .int .i64 l, .int .i64 d, .int .i64 0] 99) = W1 := ⟨_, rfl⟩
          rw [hW1]
          obtain ⟨y0, y1, y2, y3, y4, hbb⟩ := sy_box1 hW1
          have HBB := Lib.hid hbb
          have m0 := (hbb.cell (p := ⟨C, 4, none⟩) HM.out.2.2.2.2).trans HM.out.1
          have m1 := (hbb.cell (p := ⟨C, 5, none⟩) HM.out.2.2.2.2).trans HM.out.2.1
          have m2 := (hbb.cell (p := ⟨C, 6, none⟩) HM.out.2.2.2.2).trans HM.out.2.2.1
          have m3 := (hbb.cell (p := ⟨C, 7, none⟩) HM.out.2.2.2.2).trans HM.out.2.2.2.1
          clear hbb hW1
          go_quiet (fail)
          go_wp2_with fail
          go_ret
          exact ⟨by rw [HRv.out]; rfl, below_drewN HBB.out _⟩
        · skip
          have HRv : Hid (R = false) := Lib.hid (by rw [← HR.out]; unfold fitsZ; rw [hra]; simp; omega)
          clear HR
          go_enter Try.func69, Try.ntmps69
          go_upto_region 8 with fail
          obtain ⟨W1, hW1⟩ : ∃ W1, w.alloc (.cells #[.int .i64 2, .int .u8 (b.toNat : Nat), .int .i64 l, .int .i64 d, .int .i64 0] 99) = W1 := ⟨_, rfl⟩
          rw [hW1]
          obtain ⟨y0, y1, y2, y3, y4, hbb⟩ := sy_box1 hW1
          have HBB := Lib.hid hbb
          have m0 := (hbb.cell (p := ⟨C, 4, none⟩) HM.out.2.2.2.2).trans HM.out.1
          have m1 := (hbb.cell (p := ⟨C, 5, none⟩) HM.out.2.2.2.2).trans HM.out.2.1
          have m2 := (hbb.cell (p := ⟨C, 6, none⟩) HM.out.2.2.2.2).trans HM.out.2.2.1
          have m3 := (hbb.cell (p := ⟨C, 7, none⟩) HM.out.2.2.2.2).trans HM.out.2.2.2.1
          clear hbb hW1
          go_quiet (fail)
          go_wp2_with fail
          go_ret
          exact ⟨by rw [HRv.out]; rfl, below_drewN HBB.out _⟩
      · have hra : rAt r 1 = r.2.1 := rfl
        by_cases gn : r.2.1 ≤ (n : Int)
        · skip
          have HRv : Hid (R = true) := Lib.hid (by rw [← HR.out]; unfold fitsZ; rw [hra]; simp; omega)
          clear HR
          go_enter Try.func69, Try.ntmps69
          go_upto_region 8 with fail
          obtain ⟨W1, hW1⟩ : ∃ W1, w.alloc (.cells #[.int .i64 2, .int .u8 (b.toNat : Nat), .int .i64 l, .int .i64 d, .int .i64 1] 99) = W1 := ⟨_, rfl⟩
          rw [hW1]
          obtain ⟨y0, y1, y2, y3, y4, hbb⟩ := sy_box1 hW1
          have HBB := Lib.hid hbb
          have m0 := (hbb.cell (p := ⟨C, 4, none⟩) HM.out.2.2.2.2).trans HM.out.1
          have m1 := (hbb.cell (p := ⟨C, 5, none⟩) HM.out.2.2.2.2).trans HM.out.2.1
          have m2 := (hbb.cell (p := ⟨C, 6, none⟩) HM.out.2.2.2.2).trans HM.out.2.2.1
          have m3 := (hbb.cell (p := ⟨C, 7, none⟩) HM.out.2.2.2.2).trans HM.out.2.2.2.1
          clear hbb hW1
          go_quiet (fail)
          go_wp2_with fail
          go_ret
          exact ⟨by rw [HRv.out]; rfl, below_drewN HBB.out _⟩
        · skip
          have HRv : Hid (R = false) := Lib.hid (by rw [← HR.out]; unfold fitsZ; rw [hra]; simp; omega)
          clear HR
          go_enter Try.func69, Try.ntmps69
          go_upto_region 8 with fail
          obtain ⟨W1, hW1⟩ : ∃ W1, w.alloc (.cells #[.int .i64 2, .int .u8 (b.toNat : Nat), .int .i64 l, .int .i64 d, .int .i64 1] 99) = W1 := ⟨_, rfl⟩
          rw [hW1]
          obtain ⟨y0, y1, y2, y3, y4, hbb⟩ := sy_box1 hW1
          have HBB := Lib.hid hbb
          have m0 := (hbb.cell (p := ⟨C, 4, none⟩) HM.out.2.2.2.2).trans HM.out.1
          have m1 := (hbb.cell (p := ⟨C, 5, none⟩) HM.out.2.2.2.2).trans HM.out.2.1
          have m2 := (hbb.cell (p := ⟨C, 6, none⟩) HM.out.2.2.2.2).trans HM.out.2.2.1
          have m3 := (hbb.cell (p := ⟨C, 7, none⟩) HM.out.2.2.2.2).trans HM.out.2.2.2.1
          clear hbb hW1
          go_quiet (fail)
          go_wp2_with fail
          go_ret
          exact ⟨by rw [HRv.out]; rfl, below_drewN HBB.out _⟩
      · have hra : rAt r 2 = r.2.2.1 := rfl
        by_cases gn : r.2.2.1 ≤ (n : Int)
        · skip
          have HRv : Hid (R = true) := Lib.hid (by rw [← HR.out]; unfold fitsZ; rw [hra]; simp; omega)
          clear HR
          go_enter Try.func69, Try.ntmps69
          go_upto_region 8 with fail
          obtain ⟨W1, hW1⟩ : ∃ W1, w.alloc (.cells #[.int .i64 2, .int .u8 (b.toNat : Nat), .int .i64 l, .int .i64 d, .int .i64 2] 99) = W1 := ⟨_, rfl⟩
          rw [hW1]
          obtain ⟨y0, y1, y2, y3, y4, hbb⟩ := sy_box1 hW1
          have HBB := Lib.hid hbb
          have m0 := (hbb.cell (p := ⟨C, 4, none⟩) HM.out.2.2.2.2).trans HM.out.1
          have m1 := (hbb.cell (p := ⟨C, 5, none⟩) HM.out.2.2.2.2).trans HM.out.2.1
          have m2 := (hbb.cell (p := ⟨C, 6, none⟩) HM.out.2.2.2.2).trans HM.out.2.2.1
          have m3 := (hbb.cell (p := ⟨C, 7, none⟩) HM.out.2.2.2.2).trans HM.out.2.2.2.1
          clear hbb hW1
          go_quiet (fail)
          go_wp2_with fail
          go_ret
          exact ⟨by rw [HRv.out]; rfl, below_drewN HBB.out _⟩
        · skip
          have HRv : Hid (R = false) := Lib.hid (by rw [← HR.out]; unfold fitsZ; rw [hra]; simp; omega)
          clear HR
          go_enter Try.func69, Try.ntmps69
          go_upto_region 8 with fail
          obtain ⟨W1, hW1⟩ : ∃ W1, w.alloc (.cells #[.int .i64 2, .int .u8 (b.toNat : Nat), .int .i64 l, .int .i64 d, .int .i64 2] 99) = W1 := ⟨_, rfl⟩
          rw [hW1]
          obtain ⟨y0, y1, y2, y3, y4, hbb⟩ := sy_box1 hW1
          have HBB := Lib.hid hbb
          have m0 := (hbb.cell (p := ⟨C, 4, none⟩) HM.out.2.2.2.2).trans HM.out.1
          have m1 := (hbb.cell (p := ⟨C, 5, none⟩) HM.out.2.2.2.2).trans HM.out.2.1
          have m2 := (hbb.cell (p := ⟨C, 6, none⟩) HM.out.2.2.2.2).trans HM.out.2.2.1
          have m3 := (hbb.cell (p := ⟨C, 7, none⟩) HM.out.2.2.2.2).trans HM.out.2.2.2.1
          clear hbb hW1
          go_quiet (fail)
          go_wp2_with fail
          go_ret
          exact ⟨by rw [HRv.out]; rfl, below_drewN HBB.out _⟩
      · have hra : rAt r 3 = r.2.2.2 := rfl
        by_cases gn : r.2.2.2 ≤ (n : Int)
        · skip
          have HRv : Hid (R = true) := Lib.hid (by rw [← HR.out]; unfold fitsZ; rw [hra]; simp; omega)
          clear HR
          go_enter Try.func69, Try.ntmps69
          go_upto_region 8 with fail
          obtain ⟨W1, hW1⟩ : ∃ W1, w.alloc (.cells #[.int .i64 2, .int .u8 (b.toNat : Nat), .int .i64 l, .int .i64 d, .int .i64 3] 99) = W1 := ⟨_, rfl⟩
          rw [hW1]
          obtain ⟨y0, y1, y2, y3, y4, hbb⟩ := sy_box1 hW1
          have HBB := Lib.hid hbb
          have m0 := (hbb.cell (p := ⟨C, 4, none⟩) HM.out.2.2.2.2).trans HM.out.1
          have m1 := (hbb.cell (p := ⟨C, 5, none⟩) HM.out.2.2.2.2).trans HM.out.2.1
          have m2 := (hbb.cell (p := ⟨C, 6, none⟩) HM.out.2.2.2.2).trans HM.out.2.2.1
          have m3 := (hbb.cell (p := ⟨C, 7, none⟩) HM.out.2.2.2.2).trans HM.out.2.2.2.1
          clear hbb hW1
          go_quiet (fail)
          go_wp2_with fail
          go_ret
          exact ⟨by rw [HRv.out]; rfl, below_drewN HBB.out _⟩
        · skip
          have HRv : Hid (R = false) := Lib.hid (by rw [← HR.out]; unfold fitsZ; rw [hra]; simp; omega)
          clear HR
          go_enter Try.func69, Try.ntmps69
          go_upto_region 8 with fail
          obtain ⟨W1, hW1⟩ : ∃ W1, w.alloc (.cells #[.int .i64 2, .int .u8 (b.toNat : Nat), .int .i64 l, .int .i64 d, .int .i64 3] 99) = W1 := ⟨_, rfl⟩
          rw [hW1]
          obtain ⟨y0, y1, y2, y3, y4, hbb⟩ := sy_box1 hW1
          have HBB := Lib.hid hbb
          have m0 := (hbb.cell (p := ⟨C, 4, none⟩) HM.out.2.2.2.2).trans HM.out.1
          have m1 := (hbb.cell (p := ⟨C, 5, none⟩) HM.out.2.2.2.2).trans HM.out.2.1
          have m2 := (hbb.cell (p := ⟨C, 6, none⟩) HM.out.2.2.2.2).trans HM.out.2.2.1
          have m3 := (hbb.cell (p := ⟨C, 7, none⟩) HM.out.2.2.2.2).trans HM.out.2.2.2.1
          clear hbb hW1
          go_quiet (fail)
          go_wp2_with fail
          go_ret
          exact ⟨by rw [HRv.out]; rfl, below_drewN HBB.out _⟩
    · have k0b : (k == 0) = false := by rw [beq_eq_false_iff_ne]; exact k0
      have k1b : (k == 1) = false := by rw [beq_eq_false_iff_ne]; exact k1
      have k2b : (k == 2) = false := by rw [beq_eq_false_iff_ne]; exact k2
      have HRv : Hid (R = false) := Lib.hid (by rw [← HR.out]; unfold fitsZ; rw [if_neg k1, if_neg k2]; simp [k0])
      clear HR
      go_enter Try.func69, Try.ntmps69
      go_wp2_with fail
      go_ret
      exact ⟨by rw [HRv.out]; rfl, (Below.refl _ _).alloc (Nat.le_refl _) _⟩
  · skip
    have g3b : (l == 1) = false := by rw [beq_eq_false_iff_ne]; omega
    have hlf : ¬ (2 ≤ l ∧ l ≤ 273) := by omega
    rcases hk with rfl | rfl | rfl | ⟨k0, k1, k2⟩
    · skip
      have HRv : Hid (R = true) := Lib.hid (by rw [← HR.out]; unfold fitsZ; simp)
      clear HR
      go_enter Try.func69, Try.ntmps69
      go_wp2_with fail
      go_ret
      exact ⟨by rw [HRv.out]; rfl, (Below.refl _ _).alloc (Nat.le_refl _) _⟩
    · skip
      have HRv : Hid (R = false) := Lib.hid (by rw [← HR.out]; unfold fitsZ; simp; omega)
      clear HR
      go_enter Try.func69, Try.ntmps69
      go_wp2_with fail
      go_ret
      exact ⟨by rw [HRv.out]; rfl, (Below.refl _ _).alloc (Nat.le_refl _) _⟩
    · have hq : q < 0 ∨ 4 ≤ q ∨ q = 0 ∨ q = 1 ∨ q = 2 ∨ q = 3 := by omega
      rcases hq with q0 | q4 | rfl | rfl | rfl | rfl
      · have q0n : ¬ (0 : Int) ≤ q := by omega
        have HRv : Hid (R = false) := Lib.hid (by rw [← HR.out]; unfold fitsZ; simp; omega)
        clear HR
        go_enter Try.func69, Try.ntmps69
        go_upto_region 8 with fail
        obtain ⟨W1, hW1⟩ : ∃ W1, w.alloc (.cells #[.int .i64 2, .int .u8 (b.toNat : Nat), .int .i64 l, .int .i64 d, .int .i64 q] 99) = W1 := ⟨_, rfl⟩
        rw [hW1]
        obtain ⟨y0, y1, y2, y3, y4, hbb⟩ := sy_box1 hW1
        have HBB := Lib.hid hbb
        have m0 := (hbb.cell (p := ⟨C, 4, none⟩) HM.out.2.2.2.2).trans HM.out.1
        have m1 := (hbb.cell (p := ⟨C, 5, none⟩) HM.out.2.2.2.2).trans HM.out.2.1
        have m2 := (hbb.cell (p := ⟨C, 6, none⟩) HM.out.2.2.2.2).trans HM.out.2.2.1
        have m3 := (hbb.cell (p := ⟨C, 7, none⟩) HM.out.2.2.2.2).trans HM.out.2.2.2.1
        clear hbb hW1
        go_quiet (fail)
        go_wp2_with fail
        go_ret
        exact ⟨by rw [HRv.out]; rfl, below_drewN HBB.out _⟩
      · have q4n : ¬ q < 4 := by omega
        have q4m : (0 : Int) ≤ q := by omega
        have HRv : Hid (R = false) := Lib.hid (by rw [← HR.out]; unfold fitsZ; simp; omega)
        clear HR
        go_enter Try.func69, Try.ntmps69
        go_upto_region 8 with fail
        obtain ⟨W1, hW1⟩ : ∃ W1, w.alloc (.cells #[.int .i64 2, .int .u8 (b.toNat : Nat), .int .i64 l, .int .i64 d, .int .i64 q] 99) = W1 := ⟨_, rfl⟩
        rw [hW1]
        obtain ⟨y0, y1, y2, y3, y4, hbb⟩ := sy_box1 hW1
        have HBB := Lib.hid hbb
        have m0 := (hbb.cell (p := ⟨C, 4, none⟩) HM.out.2.2.2.2).trans HM.out.1
        have m1 := (hbb.cell (p := ⟨C, 5, none⟩) HM.out.2.2.2.2).trans HM.out.2.1
        have m2 := (hbb.cell (p := ⟨C, 6, none⟩) HM.out.2.2.2.2).trans HM.out.2.2.1
        have m3 := (hbb.cell (p := ⟨C, 7, none⟩) HM.out.2.2.2.2).trans HM.out.2.2.2.1
        clear hbb hW1
        go_quiet (fail)
        go_wp2_with fail
        go_ret
        exact ⟨by rw [HRv.out]; rfl, below_drewN HBB.out _⟩
      · have hra : rAt r 0 = r.1 := rfl
        by_cases gn : r.1 ≤ (n : Int)
        · skip
          have HRv : Hid (R = false) := Lib.hid (by rw [← HR.out]; unfold fitsZ; rw [hra]; simp; omega)
          clear HR
          go_enter Try.func69, Try.ntmps69
          go_upto_region 8 with fail
          obtain ⟨W1, hW1⟩ : ∃ W1, w.alloc (.cells #[.int .i64 2, .int .u8 (b.toNat : Nat), .int .i64 l, .int .i64 d, .int .i64 0] 99) = W1 := ⟨_, rfl⟩
          rw [hW1]
          obtain ⟨y0, y1, y2, y3, y4, hbb⟩ := sy_box1 hW1
          have HBB := Lib.hid hbb
          have m0 := (hbb.cell (p := ⟨C, 4, none⟩) HM.out.2.2.2.2).trans HM.out.1
          have m1 := (hbb.cell (p := ⟨C, 5, none⟩) HM.out.2.2.2.2).trans HM.out.2.1
          have m2 := (hbb.cell (p := ⟨C, 6, none⟩) HM.out.2.2.2.2).trans HM.out.2.2.1
          have m3 := (hbb.cell (p := ⟨C, 7, none⟩) HM.out.2.2.2.2).trans HM.out.2.2.2.1
          clear hbb hW1
          go_quiet (fail)
          go_wp2_with fail
          go_ret
          exact ⟨by rw [HRv.out]; rfl, below_drewN HBB.out _⟩
        · skip
          have HRv : Hid (R = false) := Lib.hid (by rw [← HR.out]; unfold fitsZ; rw [hra]; simp; omega)
          clear HR
          go_enter Try.func69, Try.ntmps69
          go_upto_region 8 with fail
          obtain ⟨W1, hW1⟩ : ∃ W1, w.alloc (.cells #[.int .i64 2, .int .u8 (b.toNat : Nat), .int .i64 l, .int .i64 d, .int .i64 0] 99) = W1 := ⟨_, rfl⟩
          rw [hW1]
          obtain ⟨y0, y1, y2, y3, y4, hbb⟩ := sy_box1 hW1
          have HBB := Lib.hid hbb
          have m0 := (hbb.cell (p := ⟨C, 4, none⟩) HM.out.2.2.2.2).trans HM.out.1
          have m1 := (hbb.cell (p := ⟨C, 5, none⟩) HM.out.2.2.2.2).trans HM.out.2.1
          have m2 := (hbb.cell (p := ⟨C, 6, none⟩) HM.out.2.2.2.2).trans HM.out.2.2.1
          have m3 := (hbb.cell (p := ⟨C, 7, none⟩) HM.out.2.2.2.2).trans HM.out.2.2.2.1
          clear hbb hW1
          go_quiet (fail)
          go_wp2_with fail
          go_ret
          exact ⟨by rw [HRv.out]; rfl, below_drewN HBB.out _⟩
      · have hra : rAt r 1 = r.2.1 := rfl
        by_cases gn : r.2.1 ≤ (n : Int)
        · skip
          have HRv : Hid (R = false) := Lib.hid (by rw [← HR.out]; unfold fitsZ; rw [hra]; simp; omega)
          clear HR
          go_enter Try.func69, Try.ntmps69
          go_upto_region 8 with fail
          obtain ⟨W1, hW1⟩ : ∃ W1, w.alloc (.cells #[.int .i64 2, .int .u8 (b.toNat : Nat), .int .i64 l, .int .i64 d, .int .i64 1] 99) = W1 := ⟨_, rfl⟩
          rw [hW1]
          obtain ⟨y0, y1, y2, y3, y4, hbb⟩ := sy_box1 hW1
          have HBB := Lib.hid hbb
          have m0 := (hbb.cell (p := ⟨C, 4, none⟩) HM.out.2.2.2.2).trans HM.out.1
          have m1 := (hbb.cell (p := ⟨C, 5, none⟩) HM.out.2.2.2.2).trans HM.out.2.1
          have m2 := (hbb.cell (p := ⟨C, 6, none⟩) HM.out.2.2.2.2).trans HM.out.2.2.1
          have m3 := (hbb.cell (p := ⟨C, 7, none⟩) HM.out.2.2.2.2).trans HM.out.2.2.2.1
          clear hbb hW1
          go_quiet (fail)
          go_wp2_with fail
          go_ret
          exact ⟨by rw [HRv.out]; rfl, below_drewN HBB.out _⟩
        · skip
          have HRv : Hid (R = false) := Lib.hid (by rw [← HR.out]; unfold fitsZ; rw [hra]; simp; omega)
          clear HR
          go_enter Try.func69, Try.ntmps69
          go_upto_region 8 with fail
          obtain ⟨W1, hW1⟩ : ∃ W1, w.alloc (.cells #[.int .i64 2, .int .u8 (b.toNat : Nat), .int .i64 l, .int .i64 d, .int .i64 1] 99) = W1 := ⟨_, rfl⟩
          rw [hW1]
          obtain ⟨y0, y1, y2, y3, y4, hbb⟩ := sy_box1 hW1
          have HBB := Lib.hid hbb
          have m0 := (hbb.cell (p := ⟨C, 4, none⟩) HM.out.2.2.2.2).trans HM.out.1
          have m1 := (hbb.cell (p := ⟨C, 5, none⟩) HM.out.2.2.2.2).trans HM.out.2.1
          have m2 := (hbb.cell (p := ⟨C, 6, none⟩) HM.out.2.2.2.2).trans HM.out.2.2.1
          have m3 := (hbb.cell (p := ⟨C, 7, none⟩) HM.out.2.2.2.2).trans HM.out.2.2.2.1
          clear hbb hW1
          go_quiet (fail)
          go_wp2_with fail
          go_ret
          exact ⟨by rw [HRv.out]; rfl, below_drewN HBB.out _⟩
      · have hra : rAt r 2 = r.2.2.1 := rfl
        by_cases gn : r.2.2.1 ≤ (n : Int)
        · skip
          have HRv : Hid (R = false) := Lib.hid (by rw [← HR.out]; unfold fitsZ; rw [hra]; simp; omega)
          clear HR
          go_enter Try.func69, Try.ntmps69
          go_upto_region 8 with fail
          obtain ⟨W1, hW1⟩ : ∃ W1, w.alloc (.cells #[.int .i64 2, .int .u8 (b.toNat : Nat), .int .i64 l, .int .i64 d, .int .i64 2] 99) = W1 := ⟨_, rfl⟩
          rw [hW1]
          obtain ⟨y0, y1, y2, y3, y4, hbb⟩ := sy_box1 hW1
          have HBB := Lib.hid hbb
          have m0 := (hbb.cell (p := ⟨C, 4, none⟩) HM.out.2.2.2.2).trans HM.out.1
          have m1 := (hbb.cell (p := ⟨C, 5, none⟩) HM.out.2.2.2.2).trans HM.out.2.1
          have m2 := (hbb.cell (p := ⟨C, 6, none⟩) HM.out.2.2.2.2).trans HM.out.2.2.1
          have m3 := (hbb.cell (p := ⟨C, 7, none⟩) HM.out.2.2.2.2).trans HM.out.2.2.2.1
          clear hbb hW1
          go_quiet (fail)
          go_wp2_with fail
          go_ret
          exact ⟨by rw [HRv.out]; rfl, below_drewN HBB.out _⟩
        · skip
          have HRv : Hid (R = false) := Lib.hid (by rw [← HR.out]; unfold fitsZ; rw [hra]; simp; omega)
          clear HR
          go_enter Try.func69, Try.ntmps69
          go_upto_region 8 with fail
          obtain ⟨W1, hW1⟩ : ∃ W1, w.alloc (.cells #[.int .i64 2, .int .u8 (b.toNat : Nat), .int .i64 l, .int .i64 d, .int .i64 2] 99) = W1 := ⟨_, rfl⟩
          rw [hW1]
          obtain ⟨y0, y1, y2, y3, y4, hbb⟩ := sy_box1 hW1
          have HBB := Lib.hid hbb
          have m0 := (hbb.cell (p := ⟨C, 4, none⟩) HM.out.2.2.2.2).trans HM.out.1
          have m1 := (hbb.cell (p := ⟨C, 5, none⟩) HM.out.2.2.2.2).trans HM.out.2.1
          have m2 := (hbb.cell (p := ⟨C, 6, none⟩) HM.out.2.2.2.2).trans HM.out.2.2.1
          have m3 := (hbb.cell (p := ⟨C, 7, none⟩) HM.out.2.2.2.2).trans HM.out.2.2.2.1
          clear hbb hW1
          go_quiet (fail)
          go_wp2_with fail
          go_ret
          exact ⟨by rw [HRv.out]; rfl, below_drewN HBB.out _⟩
      · have hra : rAt r 3 = r.2.2.2 := rfl
        by_cases gn : r.2.2.2 ≤ (n : Int)
        · skip
          have HRv : Hid (R = false) := Lib.hid (by rw [← HR.out]; unfold fitsZ; rw [hra]; simp; omega)
          clear HR
          go_enter Try.func69, Try.ntmps69
          go_upto_region 8 with fail
          obtain ⟨W1, hW1⟩ : ∃ W1, w.alloc (.cells #[.int .i64 2, .int .u8 (b.toNat : Nat), .int .i64 l, .int .i64 d, .int .i64 3] 99) = W1 := ⟨_, rfl⟩
          rw [hW1]
          obtain ⟨y0, y1, y2, y3, y4, hbb⟩ := sy_box1 hW1
          have HBB := Lib.hid hbb
          have m0 := (hbb.cell (p := ⟨C, 4, none⟩) HM.out.2.2.2.2).trans HM.out.1
          have m1 := (hbb.cell (p := ⟨C, 5, none⟩) HM.out.2.2.2.2).trans HM.out.2.1
          have m2 := (hbb.cell (p := ⟨C, 6, none⟩) HM.out.2.2.2.2).trans HM.out.2.2.1
          have m3 := (hbb.cell (p := ⟨C, 7, none⟩) HM.out.2.2.2.2).trans HM.out.2.2.2.1
          clear hbb hW1
          go_quiet (fail)
          go_wp2_with fail
          go_ret
          exact ⟨by rw [HRv.out]; rfl, below_drewN HBB.out _⟩
        · skip
          have HRv : Hid (R = false) := Lib.hid (by rw [← HR.out]; unfold fitsZ; rw [hra]; simp; omega)
          clear HR
          go_enter Try.func69, Try.ntmps69
          go_upto_region 8 with fail
          obtain ⟨W1, hW1⟩ : ∃ W1, w.alloc (.cells #[.int .i64 2, .int .u8 (b.toNat : Nat), .int .i64 l, .int .i64 d, .int .i64 3] 99) = W1 := ⟨_, rfl⟩
          rw [hW1]
          obtain ⟨y0, y1, y2, y3, y4, hbb⟩ := sy_box1 hW1
          have HBB := Lib.hid hbb
          have m0 := (hbb.cell (p := ⟨C, 4, none⟩) HM.out.2.2.2.2).trans HM.out.1
          have m1 := (hbb.cell (p := ⟨C, 5, none⟩) HM.out.2.2.2.2).trans HM.out.2.1
          have m2 := (hbb.cell (p := ⟨C, 6, none⟩) HM.out.2.2.2.2).trans HM.out.2.2.1
          have m3 := (hbb.cell (p := ⟨C, 7, none⟩) HM.out.2.2.2.2).trans HM.out.2.2.2.1
          clear hbb hW1
          go_quiet (fail)
          go_wp2_with fail
          go_ret
          exact ⟨by rw [HRv.out]; rfl, below_drewN HBB.out _⟩
    · have k0b : (k == 0) = false := by rw [beq_eq_false_iff_ne]; exact k0
      have k1b : (k == 1) = false := by rw [beq_eq_false_iff_ne]; exact k1
      have k2b : (k == 2) = false := by rw [beq_eq_false_iff_ne]; exact k2
      have HRv : Hid (R = false) := Lib.hid (by rw [← HR.out]; unfold fitsZ; rw [if_neg k1, if_neg k2]; simp [k0])
      clear HR
      go_enter Try.func69, Try.ntmps69
      go_wp2_with fail
      go_ret
      exact ⟨by rw [HRv.out]; rfl, (Below.refl _ _).alloc (Nat.le_refl _) _⟩
end Go.Proofs.Ytkckjjchfccdjaa
