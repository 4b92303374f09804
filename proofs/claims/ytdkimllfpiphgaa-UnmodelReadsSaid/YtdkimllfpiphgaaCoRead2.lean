/- The reference's coder: Dist and Plain. -/
import Derived.Test.YtdkimllfpiphgaaCoRead
namespace Go.Proofs.Ytdkimllfpiphgaa
open Go.RowKit

def distZ (r : R4) (k d q : Int) : Int := if k = 1 then d else if k = 2 then rAt r q else 0
def SInt (n : Int) (w : World) (e : Ending) (w' : World) : Prop := e = .returned (.int .i64 n) ∧ Below w.heap.size w w'
theorem sy_box {w W1 : World} {v0 v1 v2 v3 v4 : Value} (hW1 : w.alloc (.cells #[v0, v1, v2, v3, v4] 58) = W1) : W1.cell? ⟨w.heap.size, 0, none⟩ = some v0 ∧ W1.cell? ⟨w.heap.size, 1, none⟩ = some v1 ∧ W1.cell? ⟨w.heap.size, 2, none⟩ = some v2 ∧ W1.cell? ⟨w.heap.size, 3, none⟩ = some v3 ∧ W1.cell? ⟨w.heap.size, 4, none⟩ = some v4 ∧ Below w.heap.size w W1 := by
  have hr : W1.heap[w.heap.size]? = some (.cells [v0, v1, v2, v3, v4].toArray 58 (0, 0)) := by rw [← hW1]; exact heap_alloc_last _ _
  refine ⟨?_, ?_, ?_, ?_, ?_, by rw [← hW1]; exact (Below.refl _ _).alloc (Nat.le_refl _) _⟩ <;> (rw [cell_of_row W1 _ _ _ _ _ hr]; rfl)
set_option maxRecDepth 100000 in
set_option maxHeartbeats 1000000 in
theorem dist_any (C base : Nat) (lc lp pb st : Int) (r : R4) (P : List Nat) (vR vP : Value) (k : Int) (b : UInt8) (l d q : Int) (w : World) (hC : CodAt w C base lc lp pb st r P vR vP) (hq : k = 2 → 0 ≤ q ∧ q ≤ 3) :
    Calls Try.prog 21 #[PF C, SyV k b l d q] w (SInt (distZ r k d q) w) := by
  have HB : Hid (∀ o : Obj, Below w.heap.size w (w.alloc o)) := Lib.hid (fun o => (Below.refl _ _).alloc (Nat.le_refl _) _)
  by_cases k1 : k = 1
  · subst k1
    have HR : Hid (distZ r 1 d q = d) := Lib.hid rfl
    rw [HR.out]
    clear hC
    go_enter Try.func21, Try.ntmps21
    go_wp2_with fail
    go_ret
    exact ⟨rfl, HB.out _⟩
  · have k1b : (k == 1) = false := by rw [beq_eq_false_iff_ne]; exact k1
    by_cases k2 : k = 2
    case neg =>
      have k2b : (k == 2) = false := by rw [beq_eq_false_iff_ne]; exact k2
      have HR : Hid (distZ r k d q = 0) := Lib.hid (by unfold distZ; rw [if_neg k1, if_neg k2])
      rw [HR.out]
      clear hC k1 k2
      go_enter Try.func21, Try.ntmps21
      go_wp2_with fail
      go_ret
      exact ⟨rfl, HB.out _⟩
    subst k2
    have hqs : q = 0 ∨ q = 1 ∨ q = 2 ∨ q = 3 := by have := hq rfl; omega
    clear hq k1 k1b
    obtain ⟨_, _, _, _, g, cap, rfl, hcap, _, _⟩ := hC.cells
    have hcpi : (4 : Int) ≤ (cap : Int) := by omega
    have HC := Lib.hid (fun (W1 : World) (hb : Below w.heap.size w W1) => (show W1.cell? ⟨C, 4, none⟩ = some (.slice (some ⟨g, 0, none⟩) 4 cap) ∧ W1.cell? ⟨g, 0, none⟩ = some (.int .i64 r.1) ∧ W1.cell? ⟨g, 1, none⟩ = some (.int .i64 r.2.1) ∧ W1.cell? ⟨g, 2, none⟩ = some (.int .i64 r.2.2.1) ∧ W1.cell? ⟨g, 3, none⟩ = some (.int .i64 r.2.2.2) from by
      obtain ⟨_, x4, _, _, g', cap', e, _, _, x0, x1, x2, x3, _⟩ := (hC.below hb).cells
      injection e with e _ _
      injection e with e
      injection e with e
      subst e
      exact ⟨x4, x0, x1, x2, x3⟩))
    clear hC
    rcases hqs with rfl | rfl | rfl | rfl
    · have HR : Hid (distZ r 2 d 0 = r.1) := Lib.hid rfl
      rw [HR.out]
      go_enter Try.func21, Try.ntmps21
      go_upto_region 5 with fail
      obtain ⟨W1, hW1⟩ : ∃ W1, w.alloc (.cells #[.int .i64 2, .int .u8 (b.toNat : Nat), .int .i64 l, .int .i64 d, .int .i64 0] 58) = W1 := ⟨_, rfl⟩
      rw [hW1]
      obtain ⟨_, _, _, _, y4, hbb⟩ := sy_box hW1
      obtain ⟨cR, c0, c1, c2, c3⟩ := HC.out W1 hbb
      have HBB := Lib.hid hbb
      clear hbb hW1
      go_quiet (fail)
      go_wp2_with fail
      go_ret
      exact ⟨rfl, below_drewN HBB.out _⟩
    · have HR : Hid (distZ r 2 d 1 = r.2.1) := Lib.hid rfl
      rw [HR.out]
      go_enter Try.func21, Try.ntmps21
      go_upto_region 5 with fail
      obtain ⟨W1, hW1⟩ : ∃ W1, w.alloc (.cells #[.int .i64 2, .int .u8 (b.toNat : Nat), .int .i64 l, .int .i64 d, .int .i64 1] 58) = W1 := ⟨_, rfl⟩
      rw [hW1]
      obtain ⟨_, _, _, _, y4, hbb⟩ := sy_box hW1
      obtain ⟨cR, c0, c1, c2, c3⟩ := HC.out W1 hbb
      have HBB := Lib.hid hbb
      clear hbb hW1
      go_quiet (fail)
      go_wp2_with fail
      go_ret
      exact ⟨rfl, below_drewN HBB.out _⟩
    · have HR : Hid (distZ r 2 d 2 = r.2.2.1) := Lib.hid rfl
      rw [HR.out]
      go_enter Try.func21, Try.ntmps21
      go_upto_region 5 with fail
      obtain ⟨W1, hW1⟩ : ∃ W1, w.alloc (.cells #[.int .i64 2, .int .u8 (b.toNat : Nat), .int .i64 l, .int .i64 d, .int .i64 2] 58) = W1 := ⟨_, rfl⟩
      rw [hW1]
      obtain ⟨_, _, _, _, y4, hbb⟩ := sy_box hW1
      obtain ⟨cR, c0, c1, c2, c3⟩ := HC.out W1 hbb
      have HBB := Lib.hid hbb
      clear hbb hW1
      go_quiet (fail)
      go_wp2_with fail
      go_ret
      exact ⟨rfl, below_drewN HBB.out _⟩
    · have HR : Hid (distZ r 2 d 3 = r.2.2.2) := Lib.hid rfl
      rw [HR.out]
      go_enter Try.func21, Try.ntmps21
      go_upto_region 5 with fail
      obtain ⟨W1, hW1⟩ : ∃ W1, w.alloc (.cells #[.int .i64 2, .int .u8 (b.toNat : Nat), .int .i64 l, .int .i64 d, .int .i64 3] 58) = W1 := ⟨_, rfl⟩
      rw [hW1]
      obtain ⟨_, _, _, _, y4, hbb⟩ := sy_box hW1
      obtain ⟨cR, c0, c1, c2, c3⟩ := HC.out W1 hbb
      have HBB := Lib.hid hbb
      clear hbb hW1
      go_quiet (fail)
      go_wp2_with fail
      go_ret
      exact ⟨rfl, below_drewN HBB.out _⟩
def plainZ (k : Int) (b : UInt8) (l d q : Int) : Value := if k = 0 then SyV 0 b 0 0 0 else if k = 1 then SyV 1 0 l d 0 else SyV 2 0 l 0 q
def SVal (v : Value) (w : World) (e : Ending) (w' : World) : Prop := e = .returned v ∧ Below w.heap.size w w'
end Go.Proofs.Ytdkimllfpiphgaa
