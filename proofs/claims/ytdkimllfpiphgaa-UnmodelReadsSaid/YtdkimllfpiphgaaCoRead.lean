/- The reference's coder: what only reads: Fits, Dist, Plain, Two. -/
import Derived.Test.YtdkimllfpiphgaaSyBase
import Derived.Lib.MinMax
import Derived.Deep.CutBlock
import Derived.Deep.DeepCutAuto
namespace Go.Proofs.Ytdkimllfpiphgaa
open Go.RowKit

theorem OwnV.apart {t t' : TypeId} {base : Nat} {w : World} {v : Value} {l : List Value} (h : OwnV t base w v l) {C : Nat} {cs : Array Value} {x : Nat × Nat} (hC : w.heap[C]? = some (.cells cs t' x)) (hne : t ≠ t') : v.ownBlock ≠ some C := by
  intro e
  rcases h with ⟨_, ⟨rfl, _⟩ | ⟨g, cap, cur, rfl, _, hg, _⟩⟩
  · cases e
  · injection e with e
    subst e
    rw [hC] at hg
    injection hg with hg
    injection hg with _ hg _
    exact hne hg.symm
abbrev rc4 (r : R4) : List Value := [.int .i64 r.1, .int .i64 r.2.1, .int .i64 r.2.2.1, .int .i64 r.2.2.2]
def rAt (r : R4) (q : Int) : Int := r4 r.1 r.2.1 r.2.2.1 r.2.2.2 q.toNat
/-- A coder of the reference. -/
structure CodAt (w : World) (C base : Nat) (lc lp pb st : Int) (r : R4) (P : List Nat) (vR vP : Value) : Prop where
  box : w.heap[C]? = some (.cells [.int .i64 lc, .int .i64 lp, .int .i64 pb, .int .i64 st, vR, vP].toArray 48 (0, 0))
  reps : OwnV 3 base w vR (rc4 r)
  ps : OwnV 69 base w vP (P.map fun x => .int .u16 (x : Nat))
theorem CodAt.below {w w' : World} {C base : Nat} {lc lp pb st : Int} {r : R4} {P : List Nat} {vR vP : Value} (h : CodAt w C base lc lp pb st r P vR vP) (hb : Below w.heap.size w w') : CodAt w' C base lc lp pb st r P vR vP :=
  ⟨(hb.block _ (Array.getElem?_eq_some_iff.1 h.box).1).trans h.box, h.reps.below hb, h.ps.below hb⟩
theorem CodAt.cells {w : World} {C base : Nat} {lc lp pb st : Int} {r : R4} {P : List Nat} {vR vP : Value} (h : CodAt w C base lc lp pb st r P vR vP) :
    w.cell? ⟨C, 3, none⟩ = some (.int .i64 st) ∧ w.cell? ⟨C, 4, none⟩ = some vR ∧ w.cell? ⟨C, 5, none⟩ = some vP ∧ (∀ i, w.frozen? ⟨C, i, none⟩ = false) ∧
    ∃ g cap, vR = .slice (some ⟨g, 0, none⟩) 4 cap ∧ 4 ≤ cap ∧ cap ≤ 9223372036854775807 ∧ w.cell? ⟨g, 0, none⟩ = some (.int .i64 r.1) ∧ w.cell? ⟨g, 1, none⟩ = some (.int .i64 r.2.1) ∧ w.cell? ⟨g, 2, none⟩ = some (.int .i64 r.2.2.1) ∧ w.cell? ⟨g, 3, none⟩ = some (.int .i64 r.2.2.2) ∧ base ≤ g ∧ g < w.heap.size := by
  obtain ⟨g, cap, e, hg, hgl, hc, hm, hat⟩ := h.reps.some_of_pos (show 0 < 4 by decide)
  refine ⟨?_, ?_, ?_, fun i => frozen_of_row _ _ _ _ _ h.box, g, cap, e, hc, hm, hat 0 (show 0 < 4 by decide), hat 1 (show 1 < 4 by decide), hat 2 (show 2 < 4 by decide), hat 3 (show 3 < 4 by decide), hg, hgl⟩
  · rw [cell_of_row w _ _ _ _ _ h.box]; rfl
  · rw [cell_of_row w _ _ _ _ _ h.box]; rfl
  · rw [cell_of_row w _ _ _ _ _ h.box]; rfl
def fitsZ (r : R4) (n k l d q : Int) : Bool :=
  if k = 1 then decide (2 ≤ l ∧ l ≤ 273 ∧ 1 ≤ d ∧ d ≤ n ∧ d ≤ 4294967295)
  else if k = 2 then decide (0 ≤ q ∧ q ≤ 3 ∧ rAt r q ≤ n ∧ ((2 ≤ l ∧ l ≤ 273) ∨ (l = 1 ∧ q = 0)))
  else decide (k = 0)
def SBool (b : Bool) (w : World) (e : Ending) (w' : World) : Prop := e = .returned (.bool b) ∧ Below w.heap.size w w'
set_option maxRecDepth 100000 in
set_option maxHeartbeats 4000000 in
theorem fits_any (C base : Nat) (lc lp pb st : Int) (r : R4) (P : List Nat) (vR vP : Value) (A : Option Addr) (n c : Nat) (k : Int) (b : UInt8) (l d q : Int) (w : World) (hC : CodAt w C base lc lp pb st r P vR vP) :
    Calls Try.prog 19 #[PF C, .slice A n c, SyV k b l d q] w (SBool (fitsZ r (n : Int) k l d q) w) := by
  obtain ⟨R, hR⟩ : ∃ R, fitsZ r (n : Int) k l d q = R := ⟨_, rfl⟩
  rw [hR]
  have HR := Lib.hid hR
  have HB : Hid (∀ o : Obj, Below w.heap.size w (w.alloc o)) := Lib.hid (fun o => (Below.refl _ _).alloc (Nat.le_refl _) _)
  clear hR
  by_cases k1 : k = 1
  · subst k1
    have hs : (¬ 2 ≤ l) ∨ (2 ≤ l ∧ ¬ l ≤ 273) ∨ (2 ≤ l ∧ l ≤ 273 ∧ ¬ 1 ≤ d) ∨ (2 ≤ l ∧ l ≤ 273 ∧ 1 ≤ d ∧ ¬ d ≤ (n : Int)) ∨ (2 ≤ l ∧ l ≤ 273 ∧ 1 ≤ d ∧ d ≤ (n : Int) ∧ ¬ d ≤ 4294967295) ∨ (2 ≤ l ∧ l ≤ 273 ∧ 1 ≤ d ∧ d ≤ (n : Int) ∧ d ≤ 4294967295) := by omega
    clear hC
    rcases hs with g1 | ⟨g1, g2⟩ | ⟨g1, g2, g3⟩ | ⟨g1, g2, g3, g4⟩ | ⟨g1, g2, g3, g4, g5⟩ | ⟨g1, g2, g3, g4, g5⟩
    case inr.inr.inr.inr.inr =>
      have HRv : Hid (R = true) := Lib.hid (by rw [← HR.out]; unfold fitsZ; simp; omega)
      go_enter Try.func19, Try.ntmps19
      go_wp2_with fail
      go_ret
      exact ⟨by rw [HRv.out]; rfl, HB.out _⟩
    all_goals
      have HRv : Hid (R = false) := Lib.hid (by rw [← HR.out]; unfold fitsZ; simp; omega)
      go_enter Try.func19, Try.ntmps19
      go_wp2_with fail
      go_ret
      exact ⟨by rw [HRv.out]; rfl, HB.out _⟩
  · have k1b : (k == 1) = false := by rw [beq_eq_false_iff_ne]; exact k1
    have hl : (¬ 2 ≤ l) ∨ (2 ≤ l ∧ l ≤ 273) ∨ (2 ≤ l ∧ ¬ l ≤ 273) := by omega
    by_cases k2 : k = 2
    case neg =>
      have HRv : Hid (R = decide (k = 0)) := Lib.hid (by rw [← HR.out]; unfold fitsZ; rw [if_neg k1, if_neg k2])
      have k2b : (k == 2) = false := by rw [beq_eq_false_iff_ne]; exact k2
      by_cases k0 : k = 0
      · subst k0
        have HRw : Hid (R = true) := Lib.hid (by rw [HRv.out]; simp)
        clear HRv hC
        rcases hl with h1 | ⟨h1, h2⟩ | ⟨h1, h2⟩
        all_goals
          go_enter Try.func19, Try.ntmps19
          go_wp2_with fail
          go_ret
          exact ⟨by rw [HRw.out]; rfl, HB.out _⟩
      · have k0b : (k == 0) = false := by rw [beq_eq_false_iff_ne]; exact k0
        have HRw : Hid (R = false) := Lib.hid (by rw [HRv.out]; simp [k0])
        clear HRv hC
        rcases hl with h1 | ⟨h1, h2⟩ | ⟨h1, h2⟩
        all_goals
          go_enter Try.func19, Try.ntmps19
          go_wp2_with fail
          go_ret
          exact ⟨by rw [HRw.out]; rfl, HB.out _⟩
    subst k2
    clear k1 k1b
    have hqs : q < 0 ∨ 3 < q ∨ q = 0 ∨ q = 1 ∨ q = 2 ∨ q = 3 := by omega
    have hlen : (n : Int) ≤ 9223372036854775807 ∨ True := .inr trivial
    clear hlen
    have HC := Lib.hid (fun (v0 v1 v2 v3 v4 : Value) (W1 : World) (hW1 : w.alloc (.cells #[v0, v1, v2, v3, v4] 58) = W1) => (show True from trivial))
    clear HC
    obtain ⟨g, cap, rfl, hcap, hcm, hg⟩ : ∃ g cap, vR = .slice (some ⟨g, 0, none⟩) 4 cap ∧ 4 ≤ cap ∧ cap ≤ 9223372036854775807 ∧ True := by
      obtain ⟨_, _, _, _, g, cap, e, h1, h2, _⟩ := hC.cells
      exact ⟨g, cap, e, h1, h2, trivial⟩
    clear hg
    have hcpi : (4 : Int) ≤ (cap : Int) := by omega
    have HC : Hid (∀ (v0 v1 v2 v3 v4 : Value) (W1 : World), w.alloc (.cells #[v0, v1, v2, v3, v4] 58) = W1 → (W1.cell? ⟨w.heap.size, 2, none⟩ = some v2 ∧ W1.cell? ⟨w.heap.size, 4, none⟩ = some v4) ∧
        (W1.cell? ⟨C, 4, none⟩ = some (.slice (some ⟨g, 0, none⟩) 4 cap) ∧ W1.cell? ⟨g, 0, none⟩ = some (.int .i64 r.1) ∧ W1.cell? ⟨g, 1, none⟩ = some (.int .i64 r.2.1) ∧ W1.cell? ⟨g, 2, none⟩ = some (.int .i64 r.2.2.1) ∧ W1.cell? ⟨g, 3, none⟩ = some (.int .i64 r.2.2.2)) ∧ Below w.heap.size w W1) := Lib.hid (fun v0 v1 v2 v3 v4 W1 hW1 => by
      have hb : Below w.heap.size w W1 := by rw [← hW1]; exact (Below.refl _ _).alloc (Nat.le_refl _) _
      obtain ⟨_, x4, _, _, g', cap', e, _, _, x0, x1, x2, x3, _⟩ := (hC.below hb).cells
      injection e with e _ _
      injection e with e
      injection e with e
      subst e
      have hr : W1.heap[w.heap.size]? = some (.cells [v0, v1, v2, v3, v4].toArray 58 (0, 0)) := by rw [← hW1]; exact heap_alloc_last _ _
      exact ⟨⟨by rw [cell_of_row W1 _ _ _ _ _ hr]; rfl, by rw [cell_of_row W1 _ _ _ _ _ hr]; rfl⟩, ⟨x4, x0, x1, x2, x3⟩, hb⟩)
    clear hC
    rcases hqs with g1 | g1 | rfl | rfl | rfl | rfl
    · have HRw : Hid (R = false) := Lib.hid (by rw [← HR.out]; unfold fitsZ; simp; omega)
      clear HC
      rcases hl with h1 | ⟨h1, h2⟩ | ⟨h1, h2⟩
      all_goals
        go_enter Try.func19, Try.ntmps19
        go_wp2_with fail
        go_ret
        exact ⟨by rw [HRw.out]; rfl, HB.out _⟩
    · have HRw : Hid (R = false) := Lib.hid (by rw [← HR.out]; unfold fitsZ; simp; omega)
      have g0 : ¬ q < 0 := by omega
      clear HC
      rcases hl with h1 | ⟨h1, h2⟩ | ⟨h1, h2⟩
      all_goals
        go_enter Try.func19, Try.ntmps19
        go_wp2_with fail
        go_ret
        exact ⟨by rw [HRw.out]; rfl, HB.out _⟩
    · have hra : rAt r 0 = r.1 := rfl
      have hs : (¬ 2 ≤ l ∧ ¬ l = 1) ∨ l = 1 ∨ (2 ≤ l ∧ l ≤ 273) ∨ (2 ≤ l ∧ ¬ l ≤ 273 ∧ ¬ l = 1) := by omega
      clear hl
      rcases hs with ⟨g1, g2⟩ | g1 | ⟨g1, g2⟩ | ⟨g1, g2, g3⟩
      · by_cases gn : r.1 ≤ (n : Int)
        · have HRv : Hid (R = false) := Lib.hid (by rw [← HR.out]; unfold fitsZ; rw [hra]; simp; omega)
          have g2b : (l == 1) = false := by rw [beq_eq_false_iff_ne]; exact g2
          clear HR hra
          go_enter Try.func19, Try.ntmps19
          go_upto_region 7 with fail
          obtain ⟨W1, hW1⟩ : ∃ W1, w.alloc (.cells #[.int .i64 2, .int .u8 (b.toNat : Nat), .int .i64 l, .int .i64 d, .int .i64 0] 58) = W1 := ⟨_, rfl⟩
          rw [hW1]
          obtain ⟨⟨y2, y4⟩, ⟨cR, c0, c1, c2, c3⟩, hbb⟩ := HC.out _ _ _ _ _ W1 hW1
          have HBB := Lib.hid hbb
          clear hbb hW1
          go_quiet (fail)
          go_wp2_with fail
          go_ret
          exact ⟨by rw [HRv.out]; rfl, below_drewN HBB.out _⟩
        · have HRv : Hid (R = false) := Lib.hid (by rw [← HR.out]; unfold fitsZ; rw [hra]; simp; omega)
          have g2b : (l == 1) = false := by rw [beq_eq_false_iff_ne]; exact g2
          clear HR hra
          go_enter Try.func19, Try.ntmps19
          go_upto_region 7 with fail
          obtain ⟨W1, hW1⟩ : ∃ W1, w.alloc (.cells #[.int .i64 2, .int .u8 (b.toNat : Nat), .int .i64 l, .int .i64 d, .int .i64 0] 58) = W1 := ⟨_, rfl⟩
          rw [hW1]
          obtain ⟨⟨y2, y4⟩, ⟨cR, c0, c1, c2, c3⟩, hbb⟩ := HC.out _ _ _ _ _ W1 hW1
          have HBB := Lib.hid hbb
          clear hbb hW1
          go_quiet (fail)
          go_wp2_with fail
          go_ret
          exact ⟨by rw [HRv.out]; rfl, below_drewN HBB.out _⟩
      · by_cases gn : r.1 ≤ (n : Int)
        · have HRv : Hid (R = true) := Lib.hid (by rw [← HR.out]; unfold fitsZ; rw [hra]; simp; omega)
          subst g1
          clear HR hra
          go_enter Try.func19, Try.ntmps19
          go_upto_region 7 with fail
          obtain ⟨W1, hW1⟩ : ∃ W1, w.alloc (.cells #[.int .i64 2, .int .u8 (b.toNat : Nat), .int .i64 1, .int .i64 d, .int .i64 0] 58) = W1 := ⟨_, rfl⟩
          rw [hW1]
          obtain ⟨⟨y2, y4⟩, ⟨cR, c0, c1, c2, c3⟩, hbb⟩ := HC.out _ _ _ _ _ W1 hW1
          have HBB := Lib.hid hbb
          clear hbb hW1
          go_quiet (fail)
          go_wp2_with fail
          go_ret
          exact ⟨by rw [HRv.out]; rfl, below_drewN HBB.out _⟩
        · have HRv : Hid (R = false) := Lib.hid (by rw [← HR.out]; unfold fitsZ; rw [hra]; simp; omega)
          subst g1
          clear HR hra
          go_enter Try.func19, Try.ntmps19
          go_upto_region 7 with fail
          obtain ⟨W1, hW1⟩ : ∃ W1, w.alloc (.cells #[.int .i64 2, .int .u8 (b.toNat : Nat), .int .i64 1, .int .i64 d, .int .i64 0] 58) = W1 := ⟨_, rfl⟩
          rw [hW1]
          obtain ⟨⟨y2, y4⟩, ⟨cR, c0, c1, c2, c3⟩, hbb⟩ := HC.out _ _ _ _ _ W1 hW1
          have HBB := Lib.hid hbb
          clear hbb hW1
          go_quiet (fail)
          go_wp2_with fail
          go_ret
          exact ⟨by rw [HRv.out]; rfl, below_drewN HBB.out _⟩
      · by_cases gn : r.1 ≤ (n : Int)
        · have HRv : Hid (R = true) := Lib.hid (by rw [← HR.out]; unfold fitsZ; rw [hra]; simp; omega)
          clear HR hra
          go_enter Try.func19, Try.ntmps19
          go_upto_region 7 with fail
          obtain ⟨W1, hW1⟩ : ∃ W1, w.alloc (.cells #[.int .i64 2, .int .u8 (b.toNat : Nat), .int .i64 l, .int .i64 d, .int .i64 0] 58) = W1 := ⟨_, rfl⟩
          rw [hW1]
          obtain ⟨⟨y2, y4⟩, ⟨cR, c0, c1, c2, c3⟩, hbb⟩ := HC.out _ _ _ _ _ W1 hW1
          have HBB := Lib.hid hbb
          clear hbb hW1
          go_quiet (fail)
          go_wp2_with fail
          go_ret
          exact ⟨by rw [HRv.out]; rfl, below_drewN HBB.out _⟩
        · have HRv : Hid (R = false) := Lib.hid (by rw [← HR.out]; unfold fitsZ; rw [hra]; simp; omega)
          clear HR hra
          go_enter Try.func19, Try.ntmps19
          go_upto_region 7 with fail
          obtain ⟨W1, hW1⟩ : ∃ W1, w.alloc (.cells #[.int .i64 2, .int .u8 (b.toNat : Nat), .int .i64 l, .int .i64 d, .int .i64 0] 58) = W1 := ⟨_, rfl⟩
          rw [hW1]
          obtain ⟨⟨y2, y4⟩, ⟨cR, c0, c1, c2, c3⟩, hbb⟩ := HC.out _ _ _ _ _ W1 hW1
          have HBB := Lib.hid hbb
          clear hbb hW1
          go_quiet (fail)
          go_wp2_with fail
          go_ret
          exact ⟨by rw [HRv.out]; rfl, below_drewN HBB.out _⟩
      · by_cases gn : r.1 ≤ (n : Int)
        · have HRv : Hid (R = false) := Lib.hid (by rw [← HR.out]; unfold fitsZ; rw [hra]; simp; omega)
          have g3b : (l == 1) = false := by rw [beq_eq_false_iff_ne]; exact g3
          clear HR hra
          go_enter Try.func19, Try.ntmps19
          go_upto_region 7 with fail
          obtain ⟨W1, hW1⟩ : ∃ W1, w.alloc (.cells #[.int .i64 2, .int .u8 (b.toNat : Nat), .int .i64 l, .int .i64 d, .int .i64 0] 58) = W1 := ⟨_, rfl⟩
          rw [hW1]
          obtain ⟨⟨y2, y4⟩, ⟨cR, c0, c1, c2, c3⟩, hbb⟩ := HC.out _ _ _ _ _ W1 hW1
          have HBB := Lib.hid hbb
          clear hbb hW1
          go_quiet (fail)
          go_wp2_with fail
          go_ret
          exact ⟨by rw [HRv.out]; rfl, below_drewN HBB.out _⟩
        · have HRv : Hid (R = false) := Lib.hid (by rw [← HR.out]; unfold fitsZ; rw [hra]; simp; omega)
          have g3b : (l == 1) = false := by rw [beq_eq_false_iff_ne]; exact g3
          clear HR hra
          go_enter Try.func19, Try.ntmps19
          go_upto_region 7 with fail
          obtain ⟨W1, hW1⟩ : ∃ W1, w.alloc (.cells #[.int .i64 2, .int .u8 (b.toNat : Nat), .int .i64 l, .int .i64 d, .int .i64 0] 58) = W1 := ⟨_, rfl⟩
          rw [hW1]
          obtain ⟨⟨y2, y4⟩, ⟨cR, c0, c1, c2, c3⟩, hbb⟩ := HC.out _ _ _ _ _ W1 hW1
          have HBB := Lib.hid hbb
          clear hbb hW1
          go_quiet (fail)
          go_wp2_with fail
          go_ret
          exact ⟨by rw [HRv.out]; rfl, below_drewN HBB.out _⟩
    · have hra : rAt r 1 = r.2.1 := rfl
      have hs : (¬ 2 ≤ l ∧ ¬ l = 1) ∨ l = 1 ∨ (2 ≤ l ∧ l ≤ 273) ∨ (2 ≤ l ∧ ¬ l ≤ 273 ∧ ¬ l = 1) := by omega
      clear hl
      rcases hs with ⟨g1, g2⟩ | g1 | ⟨g1, g2⟩ | ⟨g1, g2, g3⟩
      · by_cases gn : r.2.1 ≤ (n : Int)
        · have HRv : Hid (R = false) := Lib.hid (by rw [← HR.out]; unfold fitsZ; rw [hra]; simp; omega)
          have g2b : (l == 1) = false := by rw [beq_eq_false_iff_ne]; exact g2
          clear HR hra
          go_enter Try.func19, Try.ntmps19
          go_upto_region 7 with fail
          obtain ⟨W1, hW1⟩ : ∃ W1, w.alloc (.cells #[.int .i64 2, .int .u8 (b.toNat : Nat), .int .i64 l, .int .i64 d, .int .i64 1] 58) = W1 := ⟨_, rfl⟩
          rw [hW1]
          obtain ⟨⟨y2, y4⟩, ⟨cR, c0, c1, c2, c3⟩, hbb⟩ := HC.out _ _ _ _ _ W1 hW1
          have HBB := Lib.hid hbb
          clear hbb hW1
          go_quiet (fail)
          go_wp2_with fail
          go_ret
          exact ⟨by rw [HRv.out]; rfl, below_drewN HBB.out _⟩
        · have HRv : Hid (R = false) := Lib.hid (by rw [← HR.out]; unfold fitsZ; rw [hra]; simp; omega)
          have g2b : (l == 1) = false := by rw [beq_eq_false_iff_ne]; exact g2
          clear HR hra
          go_enter Try.func19, Try.ntmps19
          go_upto_region 7 with fail
          obtain ⟨W1, hW1⟩ : ∃ W1, w.alloc (.cells #[.int .i64 2, .int .u8 (b.toNat : Nat), .int .i64 l, .int .i64 d, .int .i64 1] 58) = W1 := ⟨_, rfl⟩
          rw [hW1]
          obtain ⟨⟨y2, y4⟩, ⟨cR, c0, c1, c2, c3⟩, hbb⟩ := HC.out _ _ _ _ _ W1 hW1
          have HBB := Lib.hid hbb
          clear hbb hW1
          go_quiet (fail)
          go_wp2_with fail
          go_ret
          exact ⟨by rw [HRv.out]; rfl, below_drewN HBB.out _⟩
      · by_cases gn : r.2.1 ≤ (n : Int)
        · have HRv : Hid (R = false) := Lib.hid (by rw [← HR.out]; unfold fitsZ; rw [hra]; simp; omega)
          subst g1
          clear HR hra
          go_enter Try.func19, Try.ntmps19
          go_upto_region 7 with fail
          obtain ⟨W1, hW1⟩ : ∃ W1, w.alloc (.cells #[.int .i64 2, .int .u8 (b.toNat : Nat), .int .i64 1, .int .i64 d, .int .i64 1] 58) = W1 := ⟨_, rfl⟩
          rw [hW1]
          obtain ⟨⟨y2, y4⟩, ⟨cR, c0, c1, c2, c3⟩, hbb⟩ := HC.out _ _ _ _ _ W1 hW1
          have HBB := Lib.hid hbb
          clear hbb hW1
          go_quiet (fail)
          go_wp2_with fail
          go_ret
          exact ⟨by rw [HRv.out]; rfl, below_drewN HBB.out _⟩
        · have HRv : Hid (R = false) := Lib.hid (by rw [← HR.out]; unfold fitsZ; rw [hra]; simp; omega)
          subst g1
          clear HR hra
          go_enter Try.func19, Try.ntmps19
          go_upto_region 7 with fail
          obtain ⟨W1, hW1⟩ : ∃ W1, w.alloc (.cells #[.int .i64 2, .int .u8 (b.toNat : Nat), .int .i64 1, .int .i64 d, .int .i64 1] 58) = W1 := ⟨_, rfl⟩
          rw [hW1]
          obtain ⟨⟨y2, y4⟩, ⟨cR, c0, c1, c2, c3⟩, hbb⟩ := HC.out _ _ _ _ _ W1 hW1
          have HBB := Lib.hid hbb
          clear hbb hW1
          go_quiet (fail)
          go_wp2_with fail
          go_ret
          exact ⟨by rw [HRv.out]; rfl, below_drewN HBB.out _⟩
      · by_cases gn : r.2.1 ≤ (n : Int)
        · have HRv : Hid (R = true) := Lib.hid (by rw [← HR.out]; unfold fitsZ; rw [hra]; simp; omega)
          clear HR hra
          go_enter Try.func19, Try.ntmps19
          go_upto_region 7 with fail
          obtain ⟨W1, hW1⟩ : ∃ W1, w.alloc (.cells #[.int .i64 2, .int .u8 (b.toNat : Nat), .int .i64 l, .int .i64 d, .int .i64 1] 58) = W1 := ⟨_, rfl⟩
          rw [hW1]
          obtain ⟨⟨y2, y4⟩, ⟨cR, c0, c1, c2, c3⟩, hbb⟩ := HC.out _ _ _ _ _ W1 hW1
          have HBB := Lib.hid hbb
          clear hbb hW1
          go_quiet (fail)
          go_wp2_with fail
          go_ret
          exact ⟨by rw [HRv.out]; rfl, below_drewN HBB.out _⟩
        · have HRv : Hid (R = false) := Lib.hid (by rw [← HR.out]; unfold fitsZ; rw [hra]; simp; omega)
          clear HR hra
          go_enter Try.func19, Try.ntmps19
          go_upto_region 7 with fail
          obtain ⟨W1, hW1⟩ : ∃ W1, w.alloc (.cells #[.int .i64 2, .int .u8 (b.toNat : Nat), .int .i64 l, .int .i64 d, .int .i64 1] 58) = W1 := ⟨_, rfl⟩
          rw [hW1]
          obtain ⟨⟨y2, y4⟩, ⟨cR, c0, c1, c2, c3⟩, hbb⟩ := HC.out _ _ _ _ _ W1 hW1
          have HBB := Lib.hid hbb
          clear hbb hW1
          go_quiet (fail)
          go_wp2_with fail
          go_ret
          exact ⟨by rw [HRv.out]; rfl, below_drewN HBB.out _⟩
      · by_cases gn : r.2.1 ≤ (n : Int)
        · have HRv : Hid (R = false) := Lib.hid (by rw [← HR.out]; unfold fitsZ; rw [hra]; simp; omega)
          have g3b : (l == 1) = false := by rw [beq_eq_false_iff_ne]; exact g3
          clear HR hra
          go_enter Try.func19, Try.ntmps19
          go_upto_region 7 with fail
          obtain ⟨W1, hW1⟩ : ∃ W1, w.alloc (.cells #[.int .i64 2, .int .u8 (b.toNat : Nat), .int .i64 l, .int .i64 d, .int .i64 1] 58) = W1 := ⟨_, rfl⟩
          rw [hW1]
          obtain ⟨⟨y2, y4⟩, ⟨cR, c0, c1, c2, c3⟩, hbb⟩ := HC.out _ _ _ _ _ W1 hW1
          have HBB := Lib.hid hbb
          clear hbb hW1
          go_quiet (fail)
          go_wp2_with fail
          go_ret
          exact ⟨by rw [HRv.out]; rfl, below_drewN HBB.out _⟩
        · have HRv : Hid (R = false) := Lib.hid (by rw [← HR.out]; unfold fitsZ; rw [hra]; simp; omega)
          have g3b : (l == 1) = false := by rw [beq_eq_false_iff_ne]; exact g3
          clear HR hra
          go_enter Try.func19, Try.ntmps19
          go_upto_region 7 with fail
          obtain ⟨W1, hW1⟩ : ∃ W1, w.alloc (.cells #[.int .i64 2, .int .u8 (b.toNat : Nat), .int .i64 l, .int .i64 d, .int .i64 1] 58) = W1 := ⟨_, rfl⟩
          rw [hW1]
          obtain ⟨⟨y2, y4⟩, ⟨cR, c0, c1, c2, c3⟩, hbb⟩ := HC.out _ _ _ _ _ W1 hW1
          have HBB := Lib.hid hbb
          clear hbb hW1
          go_quiet (fail)
          go_wp2_with fail
          go_ret
          exact ⟨by rw [HRv.out]; rfl, below_drewN HBB.out _⟩
    · have hra : rAt r 2 = r.2.2.1 := rfl
      have hs : (¬ 2 ≤ l ∧ ¬ l = 1) ∨ l = 1 ∨ (2 ≤ l ∧ l ≤ 273) ∨ (2 ≤ l ∧ ¬ l ≤ 273 ∧ ¬ l = 1) := by omega
      clear hl
      rcases hs with ⟨g1, g2⟩ | g1 | ⟨g1, g2⟩ | ⟨g1, g2, g3⟩
      · by_cases gn : r.2.2.1 ≤ (n : Int)
        · have HRv : Hid (R = false) := Lib.hid (by rw [← HR.out]; unfold fitsZ; rw [hra]; simp; omega)
          have g2b : (l == 1) = false := by rw [beq_eq_false_iff_ne]; exact g2
          clear HR hra
          go_enter Try.func19, Try.ntmps19
          go_upto_region 7 with fail
          obtain ⟨W1, hW1⟩ : ∃ W1, w.alloc (.cells #[.int .i64 2, .int .u8 (b.toNat : Nat), .int .i64 l, .int .i64 d, .int .i64 2] 58) = W1 := ⟨_, rfl⟩
          rw [hW1]
          obtain ⟨⟨y2, y4⟩, ⟨cR, c0, c1, c2, c3⟩, hbb⟩ := HC.out _ _ _ _ _ W1 hW1
          have HBB := Lib.hid hbb
          clear hbb hW1
          go_quiet (fail)
          go_wp2_with fail
          go_ret
          exact ⟨by rw [HRv.out]; rfl, below_drewN HBB.out _⟩
        · have HRv : Hid (R = false) := Lib.hid (by rw [← HR.out]; unfold fitsZ; rw [hra]; simp; omega)
          have g2b : (l == 1) = false := by rw [beq_eq_false_iff_ne]; exact g2
          clear HR hra
          go_enter Try.func19, Try.ntmps19
          go_upto_region 7 with fail
          obtain ⟨W1, hW1⟩ : ∃ W1, w.alloc (.cells #[.int .i64 2, .int .u8 (b.toNat : Nat), .int .i64 l, .int .i64 d, .int .i64 2] 58) = W1 := ⟨_, rfl⟩
          rw [hW1]
          obtain ⟨⟨y2, y4⟩, ⟨cR, c0, c1, c2, c3⟩, hbb⟩ := HC.out _ _ _ _ _ W1 hW1
          have HBB := Lib.hid hbb
          clear hbb hW1
          go_quiet (fail)
          go_wp2_with fail
          go_ret
          exact ⟨by rw [HRv.out]; rfl, below_drewN HBB.out _⟩
      · by_cases gn : r.2.2.1 ≤ (n : Int)
        · have HRv : Hid (R = false) := Lib.hid (by rw [← HR.out]; unfold fitsZ; rw [hra]; simp; omega)
          subst g1
          clear HR hra
          go_enter Try.func19, Try.ntmps19
          go_upto_region 7 with fail
          obtain ⟨W1, hW1⟩ : ∃ W1, w.alloc (.cells #[.int .i64 2, .int .u8 (b.toNat : Nat), .int .i64 1, .int .i64 d, .int .i64 2] 58) = W1 := ⟨_, rfl⟩
          rw [hW1]
          obtain ⟨⟨y2, y4⟩, ⟨cR, c0, c1, c2, c3⟩, hbb⟩ := HC.out _ _ _ _ _ W1 hW1
          have HBB := Lib.hid hbb
          clear hbb hW1
          go_quiet (fail)
          go_wp2_with fail
          go_ret
          exact ⟨by rw [HRv.out]; rfl, below_drewN HBB.out _⟩
        · have HRv : Hid (R = false) := Lib.hid (by rw [← HR.out]; unfold fitsZ; rw [hra]; simp; omega)
          subst g1
          clear HR hra
          go_enter Try.func19, Try.ntmps19
          go_upto_region 7 with fail
          obtain ⟨W1, hW1⟩ : ∃ W1, w.alloc (.cells #[.int .i64 2, .int .u8 (b.toNat : Nat), .int .i64 1, .int .i64 d, .int .i64 2] 58) = W1 := ⟨_, rfl⟩
          rw [hW1]
          obtain ⟨⟨y2, y4⟩, ⟨cR, c0, c1, c2, c3⟩, hbb⟩ := HC.out _ _ _ _ _ W1 hW1
          have HBB := Lib.hid hbb
          clear hbb hW1
          go_quiet (fail)
          go_wp2_with fail
          go_ret
          exact ⟨by rw [HRv.out]; rfl, below_drewN HBB.out _⟩
      · by_cases gn : r.2.2.1 ≤ (n : Int)
        · have HRv : Hid (R = true) := Lib.hid (by rw [← HR.out]; unfold fitsZ; rw [hra]; simp; omega)
          clear HR hra
          go_enter Try.func19, Try.ntmps19
          go_upto_region 7 with fail
          obtain ⟨W1, hW1⟩ : ∃ W1, w.alloc (.cells #[.int .i64 2, .int .u8 (b.toNat : Nat), .int .i64 l, .int .i64 d, .int .i64 2] 58) = W1 := ⟨_, rfl⟩
          rw [hW1]
          obtain ⟨⟨y2, y4⟩, ⟨cR, c0, c1, c2, c3⟩, hbb⟩ := HC.out _ _ _ _ _ W1 hW1
          have HBB := Lib.hid hbb
          clear hbb hW1
          go_quiet (fail)
          go_wp2_with fail
          go_ret
          exact ⟨by rw [HRv.out]; rfl, below_drewN HBB.out _⟩
        · have HRv : Hid (R = false) := Lib.hid (by rw [← HR.out]; unfold fitsZ; rw [hra]; simp; omega)
          clear HR hra
          go_enter Try.func19, Try.ntmps19
          go_upto_region 7 with fail
          obtain ⟨W1, hW1⟩ : ∃ W1, w.alloc (.cells #[.int .i64 2, .int .u8 (b.toNat : Nat), .int .i64 l, .int .i64 d, .int .i64 2] 58) = W1 := ⟨_, rfl⟩
          rw [hW1]
          obtain ⟨⟨y2, y4⟩, ⟨cR, c0, c1, c2, c3⟩, hbb⟩ := HC.out _ _ _ _ _ W1 hW1
          have HBB := Lib.hid hbb
          clear hbb hW1
          go_quiet (fail)
          go_wp2_with fail
          go_ret
          exact ⟨by rw [HRv.out]; rfl, below_drewN HBB.out _⟩
      · by_cases gn : r.2.2.1 ≤ (n : Int)
        · have HRv : Hid (R = false) := Lib.hid (by rw [← HR.out]; unfold fitsZ; rw [hra]; simp; omega)
          have g3b : (l == 1) = false := by rw [beq_eq_false_iff_ne]; exact g3
          clear HR hra
          go_enter Try.func19, Try.ntmps19
          go_upto_region 7 with fail
          obtain ⟨W1, hW1⟩ : ∃ W1, w.alloc (.cells #[.int .i64 2, .int .u8 (b.toNat : Nat), .int .i64 l, .int .i64 d, .int .i64 2] 58) = W1 := ⟨_, rfl⟩
          rw [hW1]
          obtain ⟨⟨y2, y4⟩, ⟨cR, c0, c1, c2, c3⟩, hbb⟩ := HC.out _ _ _ _ _ W1 hW1
          have HBB := Lib.hid hbb
          clear hbb hW1
          go_quiet (fail)
          go_wp2_with fail
          go_ret
          exact ⟨by rw [HRv.out]; rfl, below_drewN HBB.out _⟩
        · have HRv : Hid (R = false) := Lib.hid (by rw [← HR.out]; unfold fitsZ; rw [hra]; simp; omega)
          have g3b : (l == 1) = false := by rw [beq_eq_false_iff_ne]; exact g3
          clear HR hra
          go_enter Try.func19, Try.ntmps19
          go_upto_region 7 with fail
          obtain ⟨W1, hW1⟩ : ∃ W1, w.alloc (.cells #[.int .i64 2, .int .u8 (b.toNat : Nat), .int .i64 l, .int .i64 d, .int .i64 2] 58) = W1 := ⟨_, rfl⟩
          rw [hW1]
          obtain ⟨⟨y2, y4⟩, ⟨cR, c0, c1, c2, c3⟩, hbb⟩ := HC.out _ _ _ _ _ W1 hW1
          have HBB := Lib.hid hbb
          clear hbb hW1
          go_quiet (fail)
          go_wp2_with fail
          go_ret
          exact ⟨by rw [HRv.out]; rfl, below_drewN HBB.out _⟩
    · have hra : rAt r 3 = r.2.2.2 := rfl
      have hs : (¬ 2 ≤ l ∧ ¬ l = 1) ∨ l = 1 ∨ (2 ≤ l ∧ l ≤ 273) ∨ (2 ≤ l ∧ ¬ l ≤ 273 ∧ ¬ l = 1) := by omega
      clear hl
      rcases hs with ⟨g1, g2⟩ | g1 | ⟨g1, g2⟩ | ⟨g1, g2, g3⟩
      · by_cases gn : r.2.2.2 ≤ (n : Int)
        · have HRv : Hid (R = false) := Lib.hid (by rw [← HR.out]; unfold fitsZ; rw [hra]; simp; omega)
          have g2b : (l == 1) = false := by rw [beq_eq_false_iff_ne]; exact g2
          clear HR hra
          go_enter Try.func19, Try.ntmps19
          go_upto_region 7 with fail
          obtain ⟨W1, hW1⟩ : ∃ W1, w.alloc (.cells #[.int .i64 2, .int .u8 (b.toNat : Nat), .int .i64 l, .int .i64 d, .int .i64 3] 58) = W1 := ⟨_, rfl⟩
          rw [hW1]
          obtain ⟨⟨y2, y4⟩, ⟨cR, c0, c1, c2, c3⟩, hbb⟩ := HC.out _ _ _ _ _ W1 hW1
          have HBB := Lib.hid hbb
          clear hbb hW1
          go_quiet (fail)
          go_wp2_with fail
          go_ret
          exact ⟨by rw [HRv.out]; rfl, below_drewN HBB.out _⟩
        · have HRv : Hid (R = false) := Lib.hid (by rw [← HR.out]; unfold fitsZ; rw [hra]; simp; omega)
          have g2b : (l == 1) = false := by rw [beq_eq_false_iff_ne]; exact g2
          clear HR hra
          go_enter Try.func19, Try.ntmps19
          go_upto_region 7 with fail
          obtain ⟨W1, hW1⟩ : ∃ W1, w.alloc (.cells #[.int .i64 2, .int .u8 (b.toNat : Nat), .int .i64 l, .int .i64 d, .int .i64 3] 58) = W1 := ⟨_, rfl⟩
          rw [hW1]
          obtain ⟨⟨y2, y4⟩, ⟨cR, c0, c1, c2, c3⟩, hbb⟩ := HC.out _ _ _ _ _ W1 hW1
          have HBB := Lib.hid hbb
          clear hbb hW1
          go_quiet (fail)
          go_wp2_with fail
          go_ret
          exact ⟨by rw [HRv.out]; rfl, below_drewN HBB.out _⟩
      · by_cases gn : r.2.2.2 ≤ (n : Int)
        · have HRv : Hid (R = false) := Lib.hid (by rw [← HR.out]; unfold fitsZ; rw [hra]; simp; omega)
          subst g1
          clear HR hra
          go_enter Try.func19, Try.ntmps19
          go_upto_region 7 with fail
          obtain ⟨W1, hW1⟩ : ∃ W1, w.alloc (.cells #[.int .i64 2, .int .u8 (b.toNat : Nat), .int .i64 1, .int .i64 d, .int .i64 3] 58) = W1 := ⟨_, rfl⟩
          rw [hW1]
          obtain ⟨⟨y2, y4⟩, ⟨cR, c0, c1, c2, c3⟩, hbb⟩ := HC.out _ _ _ _ _ W1 hW1
          have HBB := Lib.hid hbb
          clear hbb hW1
          go_quiet (fail)
          go_wp2_with fail
          go_ret
          exact ⟨by rw [HRv.out]; rfl, below_drewN HBB.out _⟩
        · have HRv : Hid (R = false) := Lib.hid (by rw [← HR.out]; unfold fitsZ; rw [hra]; simp; omega)
          subst g1
          clear HR hra
          go_enter Try.func19, Try.ntmps19
          go_upto_region 7 with fail
          obtain ⟨W1, hW1⟩ : ∃ W1, w.alloc (.cells #[.int .i64 2, .int .u8 (b.toNat : Nat), .int .i64 1, .int .i64 d, .int .i64 3] 58) = W1 := ⟨_, rfl⟩
          rw [hW1]
          obtain ⟨⟨y2, y4⟩, ⟨cR, c0, c1, c2, c3⟩, hbb⟩ := HC.out _ _ _ _ _ W1 hW1
          have HBB := Lib.hid hbb
          clear hbb hW1
          go_quiet (fail)
          go_wp2_with fail
          go_ret
          exact ⟨by rw [HRv.out]; rfl, below_drewN HBB.out _⟩
      · by_cases gn : r.2.2.2 ≤ (n : Int)
        · have HRv : Hid (R = true) := Lib.hid (by rw [← HR.out]; unfold fitsZ; rw [hra]; simp; omega)
          clear HR hra
          go_enter Try.func19, Try.ntmps19
          go_upto_region 7 with fail
          obtain ⟨W1, hW1⟩ : ∃ W1, w.alloc (.cells #[.int .i64 2, .int .u8 (b.toNat : Nat), .int .i64 l, .int .i64 d, .int .i64 3] 58) = W1 := ⟨_, rfl⟩
          rw [hW1]
          obtain ⟨⟨y2, y4⟩, ⟨cR, c0, c1, c2, c3⟩, hbb⟩ := HC.out _ _ _ _ _ W1 hW1
          have HBB := Lib.hid hbb
          clear hbb hW1
          go_quiet (fail)
          go_wp2_with fail
          go_ret
          exact ⟨by rw [HRv.out]; rfl, below_drewN HBB.out _⟩
        · have HRv : Hid (R = false) := Lib.hid (by rw [← HR.out]; unfold fitsZ; rw [hra]; simp; omega)
          clear HR hra
          go_enter Try.func19, Try.ntmps19
          go_upto_region 7 with fail
          obtain ⟨W1, hW1⟩ : ∃ W1, w.alloc (.cells #[.int .i64 2, .int .u8 (b.toNat : Nat), .int .i64 l, .int .i64 d, .int .i64 3] 58) = W1 := ⟨_, rfl⟩
          rw [hW1]
          obtain ⟨⟨y2, y4⟩, ⟨cR, c0, c1, c2, c3⟩, hbb⟩ := HC.out _ _ _ _ _ W1 hW1
          have HBB := Lib.hid hbb
          clear hbb hW1
          go_quiet (fail)
          go_wp2_with fail
          go_ret
          exact ⟨by rw [HRv.out]; rfl, below_drewN HBB.out _⟩
      · by_cases gn : r.2.2.2 ≤ (n : Int)
        · have HRv : Hid (R = false) := Lib.hid (by rw [← HR.out]; unfold fitsZ; rw [hra]; simp; omega)
          have g3b : (l == 1) = false := by rw [beq_eq_false_iff_ne]; exact g3
          clear HR hra
          go_enter Try.func19, Try.ntmps19
          go_upto_region 7 with fail
          obtain ⟨W1, hW1⟩ : ∃ W1, w.alloc (.cells #[.int .i64 2, .int .u8 (b.toNat : Nat), .int .i64 l, .int .i64 d, .int .i64 3] 58) = W1 := ⟨_, rfl⟩
          rw [hW1]
          obtain ⟨⟨y2, y4⟩, ⟨cR, c0, c1, c2, c3⟩, hbb⟩ := HC.out _ _ _ _ _ W1 hW1
          have HBB := Lib.hid hbb
          clear hbb hW1
          go_quiet (fail)
          go_wp2_with fail
          go_ret
          exact ⟨by rw [HRv.out]; rfl, below_drewN HBB.out _⟩
        · have HRv : Hid (R = false) := Lib.hid (by rw [← HR.out]; unfold fitsZ; rw [hra]; simp; omega)
          have g3b : (l == 1) = false := by rw [beq_eq_false_iff_ne]; exact g3
          clear HR hra
          go_enter Try.func19, Try.ntmps19
          go_upto_region 7 with fail
          obtain ⟨W1, hW1⟩ : ∃ W1, w.alloc (.cells #[.int .i64 2, .int .u8 (b.toNat : Nat), .int .i64 l, .int .i64 d, .int .i64 3] 58) = W1 := ⟨_, rfl⟩
          rw [hW1]
          obtain ⟨⟨y2, y4⟩, ⟨cR, c0, c1, c2, c3⟩, hbb⟩ := HC.out _ _ _ _ _ W1 hW1
          have HBB := Lib.hid hbb
          clear hbb hW1
          go_quiet (fail)
          go_wp2_with fail
          go_ret
          exact ⟨by rw [HRv.out]; rfl, below_drewN HBB.out _⟩
end Go.Proofs.Ytdkimllfpiphgaa
