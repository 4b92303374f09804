/- The parser's after: the repeats behind a symbol. -/
import Derived.Test.YtkckjjchfccdjaaMg18
import Derived.Test.YtkckjjchfccdjaaMg8
import Derived.Laws.CopyOwn
import Derived.Deep.RegionLaw
import Derived.Deep.RegionHeld3
namespace Go.Proofs.Ytkckjjchfccdjaa
set_option maxRecDepth 100000
open Go.RowKit

def AfterDone (a b c d : Int) (w : World) (e : Ending) (w' : World) : Prop := e = .returned (R4V a b c d) ∧ Below w.heap.size w w'
set_option maxRecDepth 100000 in
set_option maxHeartbeats 2000000 in
theorem after_lit (a b c d : Int) (by_ : UInt8) (l dd r : Int) (w : World) : Calls Try.prog 68 #[R4V a b c d, SyV 0 by_ l dd r] w (AfterDone a b c d w) := by
  go_enter Try.func68, Try.ntmps68
  go_wp2_with fail
  refine bodyPost_ret (v := R4V a b c d) (by simp [results, Try.results68, go_sem]) rfl ⟨rfl, ?_⟩
  exact (((Below.refl _ _).alloc (Nat.le_refl _) _).alloc (by simp) _).alloc (by simp; omega) _
theorem after_world {w W : World} {r0 r1 r2 r3 s0 s1 s2 s3 s4 z0 z1 z2 z3 n0 n1 n2 n3 : Value} {t0 t1 t2 t3 : TypeId}
    (hW : (((w.alloc (.cells #[r0, r1, r2, r3] t0)).alloc (.cells #[s0, s1, s2, s3, s4] t1)).alloc (.cells #[z0, z1, z2, z3] t2)).alloc (.cells #[n0, n1, n2, n3] t3) = W) :
    Below w.heap.size w W ∧ W.heap[w.heap.size]? = some (.cells [r0, r1, r2, r3].toArray t0 (0, 0)) ∧ W.heap[w.heap.size + 1 + 1]? = some (.cells [z0, z1, z2, z3].toArray t2 (0, 0)) ∧ W.heap[w.heap.size + 1 + 1 + 1]? = some (.cells [n0, n1, n2, n3].toArray t3 (0, 0)) := by
  subst hW
  have mk : ∀ (W : World) (o : Obj) (b : Nat), b = W.heap.size → (W.alloc o).heap[b]? = some o := fun W o b e => by subst e; exact heap_alloc_last W o
  have up : ∀ (W : World) (o o' : Obj) (b : Nat), W.heap[b]? = some o' → (W.alloc o).heap[b]? = some o' := fun W o o' b h => (Below.heap_alloc _ _ _ (Array.getElem?_eq_some_iff.1 h).1).trans h
  refine ⟨(((((Below.refl _ _).alloc (Nat.le_refl _) _).alloc (by simp) _).alloc (by simp; omega) _).alloc (by simp; omega) _), up _ _ _ _ (up _ _ _ _ (up _ _ _ _ (mk _ _ _ rfl))), up _ _ _ _ (mk _ _ _ (by simp)), mk _ _ _ (by simp)⟩
theorem after_world2 {w W : World} {m : Nat} {r0 r1 r2 r3 s0 s1 s2 s3 s4 z0 z1 z2 z3 n0 n1 n2 n3 : Value} {t0 t1 t2 t3 : TypeId}
    (hW : ((((w.alloc (.cells #[r0, r1, r2, r3] t0)).alloc (.cells #[s0, s1, s2, s3, s4] t1)).alloc (.cells #[z0, z1, z2, z3] t2)).drewN m).alloc (.cells #[n0, n1, n2, n3] t3) = W) :
    Below w.heap.size w W ∧ W.heap[w.heap.size]? = some (.cells [r0, r1, r2, r3].toArray t0 (0, 0)) ∧ W.heap[w.heap.size + 1 + 1]? = some (.cells [z0, z1, z2, z3].toArray t2 (0, 0)) ∧ W.heap[w.heap.size + 1 + 1 + 1]? = some (.cells [n0, n1, n2, n3].toArray t3 (0, 0)) := by
  obtain ⟨h1, h2, h3, h4⟩ := after_world (rfl : (((w.alloc (.cells #[r0, r1, r2, r3] t0)).alloc (.cells #[s0, s1, s2, s3, s4] t1)).alloc (.cells #[z0, z1, z2, z3] t2)).alloc (.cells #[n0, n1, n2, n3] t3) = _)
  subst hW
  exact ⟨⟨h1.os, h1.tape, h1.output, h1.size, h1.block⟩, h2, h3, h4⟩
-- <walks
set_option maxRecDepth 100000 in
set_option maxHeartbeats 2000000 in
theorem after_match (a b c d : Int) (by_ : UInt8) (l dd r : Int) (w : World) : Calls Try.prog 68 #[R4V a b c d, SyV 1 by_ l dd r] w (AfterDone dd a b c w) := by
  go_enter Try.func68, Try.ntmps68
  go_wp2_with fail
  generalize hW : (((w.alloc _).alloc _).alloc _).alloc _ = W
  obtain ⟨hB, h0, h2, h3⟩ := after_world hW
  obtain ⟨W0, hg0⟩ : ∃ g, w.heap.size = g := ⟨_, rfl⟩
  obtain ⟨g, hg⟩ : ∃ g, W0 + 1 + 1 + 1 = g := ⟨_, rfl⟩
  obtain ⟨g2, hg2⟩ : ∃ g, W0 + 1 + 1 = g := ⟨_, rfl⟩
  rw [hg0] at hB h0 h2 h3 ⊢
  rw [hg] at h3 ⊢
  rw [hg2] at h2 ⊢
  have hgg : g2 < g ∧ W0 ≤ g ∧ W0 ≤ g2 := by omega
  have HGG : Hid (g2 < g ∧ W0 ≤ g ∧ W0 ≤ g2) := Lib.hid hgg
  have HB := Lib.hid hB
  have H2 := Lib.hid h2
  have HW0 := Lib.hid hg0
  clear hg hg2 hW hgg h2 hB hg0
  have q1 : ∀ w, (Instr.sliceAt 103 (.pointer (some ⟨g, 0, none⟩)) (some (.int .i64 1)) (some (.int .i64 4)) none).run Try.prog w = .ok (.slice (some ⟨g, 1, none⟩) 3 3) w := fun w => cut4lh g 3 (by decide) w
  have q2 : ∀ w, (Instr.sliceAt 103 (.pointer (some ⟨W0, 0, none⟩)) none (some (.int .i64 3)) none).run Try.prog w = .ok (.slice (some ⟨W0, 0, none⟩) 3 4) w := fun w => cut4h W0 3 (by decide) w
  have h3d : W.drew.heap[g]? = some (.cells ([Value.int .i64 a, Value.int .i64 b, Value.int .i64 c, Value.int .i64 d]).toArray 103 (0, 0)) := h3
  have hsrc := src_cells (cs := [Value.int .i64 a, Value.int .i64 b, Value.int .i64 c]) h0 (by intro j hj; match j, hj with | 0, _ | 1, _ | 2, _ => rfl)
  have hwr : IntKind.i64.wrap 4 = 4 := by decide
  clear h3 h0
  go_region_law (refine step_copy_splice rfl (.tmp 26) (.tmp 28) 91 91 rfl 3 Try.underlying91 (by kernel_rfl) _ _ _ _ _ _ rfl rfl g 1 _ _ h3d ([Value.int .i64 a, Value.int .i64 b, Value.int .i64 c]) rfl (fun _ => ⟨rfl, _, rfl, hsrc⟩) (by simp) (by intro v hv; simp at hv; rcases hv with rfl | rfl | rfl <;> rfl) g W.drew (Below.refl _ _) (Nat.le_refl _) ?_; intro w4 hg4 hb4)
  have hrow : w4.heap[g]? = some (.cells ([Value.int .i64 a, Value.int .i64 a, Value.int .i64 b, Value.int .i64 c]).toArray 103 (0, 0)) := hg4.out
  have hz : w4.heap[g2]? = some (.cells ([Value.int .i64 0, Value.int .i64 0, Value.int .i64 0, Value.int .i64 0]).toArray 103 (0, 0)) := (hb4.block g2 HGG.out.1).trans H2.out
  have hbw : Below W0 w w4 := (show Below W0 w W.drew from ⟨HB.out.os, HB.out.tape, HB.out.output, HB.out.size, HB.out.block⟩).trans (hb4.mono HGG.out.2.1)
  have HBW := Lib.hid hbw
  have HROW := Lib.hid hrow
  have HZ := Lib.hid hz
  have k0 : w4.cell? ⟨g, 0, none⟩ = some (.int .i64 a) := by rw [cell_of_row w4 _ _ _ _ _ hrow]; rfl
  have fz0 : w4.frozen? ⟨g, 0, none⟩ = false := frozen_of_row _ _ _ _ _ hrow
  clear q1 q2 h3d hsrc hwr hb4 hg4 hbw hz hrow
  have ngg : g ≠ g2 ∧ g2 ≠ g := by have := HGG.out; omega
  obtain ⟨n1, n2⟩ := ngg
  have k1 : w4.cell? ⟨g, 1, none⟩ = some (.int .i64 a) := by rw [cell_of_row w4 _ _ _ _ _ HROW.out]; rfl
  have k2 : w4.cell? ⟨g, 2, none⟩ = some (.int .i64 b) := by rw [cell_of_row w4 _ _ _ _ _ HROW.out]; rfl
  have k3 : w4.cell? ⟨g, 3, none⟩ = some (.int .i64 c) := by rw [cell_of_row w4 _ _ _ _ _ HROW.out]; rfl
  have z0 : w4.cell? ⟨g2, 0, none⟩ = some (.int .i64 0) := by rw [cell_of_row w4 _ _ _ _ _ HZ.out]; rfl
  have f0 : w4.frozen? ⟨g2, 0, none⟩ = false := frozen_of_row _ _ _ _ _ HZ.out
  have z1 : w4.cell? ⟨g2, 1, none⟩ = some (.int .i64 0) := by rw [cell_of_row w4 _ _ _ _ _ HZ.out]; rfl
  have f1 : w4.frozen? ⟨g2, 1, none⟩ = false := frozen_of_row _ _ _ _ _ HZ.out
  have z2 : w4.cell? ⟨g2, 2, none⟩ = some (.int .i64 0) := by rw [cell_of_row w4 _ _ _ _ _ HZ.out]; rfl
  have f2 : w4.frozen? ⟨g2, 2, none⟩ = false := frozen_of_row _ _ _ _ _ HZ.out
  have z3 : w4.cell? ⟨g2, 3, none⟩ = some (.int .i64 0) := by rw [cell_of_row w4 _ _ _ _ _ HZ.out]; rfl
  have f3 : w4.frozen? ⟨g2, 3, none⟩ = false := frozen_of_row _ _ _ _ _ HZ.out
  go_wp2_with fail
  refine bodyPost_ret (v := R4V dd a b c) (by simp [results, Try.results68, go_sem, z0, z1, z2, z3]) rfl ⟨rfl, ?_⟩
  have hg := HGG.out
  rw [HW0.out]
  refine Below.setCell ?_ hg.2.2 _
  refine Below.setCell ?_ hg.2.2 _
  refine Below.setCell ?_ hg.2.2 _
  refine Below.setCell ?_ hg.2.2 _
  exact Below.setCell HBW.out hg.2.1 _
set_option maxRecDepth 100000 in
set_option maxHeartbeats 2000000 in
theorem after_rep0 (a b c d : Int) (by_ : UInt8) (l dd : Int) (w : World) : Calls Try.prog 68 #[R4V a b c d, SyV 2 by_ l dd 0] w (AfterDone a b c d w) := by
  go_enter Try.func68, Try.ntmps68
  go_wp2_with fail
  go_quiet (fail)
  go_wp2_with fail
  generalize hW : ((((w.alloc _).alloc _).alloc _).drewN _).alloc _ = W
  obtain ⟨hB, h0, h2, h3⟩ := after_world2 hW
  obtain ⟨W0, hg0⟩ : ∃ g, w.heap.size = g := ⟨_, rfl⟩
  obtain ⟨g, hg⟩ : ∃ g, W0 + 1 + 1 + 1 = g := ⟨_, rfl⟩
  obtain ⟨g2, hg2⟩ : ∃ g, W0 + 1 + 1 = g := ⟨_, rfl⟩
  rw [hg0] at hB h0 h2 h3 ⊢
  rw [hg] at h3 ⊢
  rw [hg2] at h2 ⊢
  have hgg : g2 < g ∧ W0 ≤ g ∧ W0 ≤ g2 := by omega
  have HGG : Hid (g2 < g ∧ W0 ≤ g ∧ W0 ≤ g2) := Lib.hid hgg
  have HB := Lib.hid hB
  have H2 := Lib.hid h2
  have HW0 := Lib.hid hg0
  clear hg hg2 hW hgg h2 hB hg0
  have q1 : ∀ w, (Instr.sliceAt 103 (.pointer (some ⟨g, 0, none⟩)) (some (.int .i64 1)) (some (.int .i64 1)) none).run Try.prog w = .ok (.slice (some ⟨g, 1, none⟩) 0 3) w := fun w => cut4lh g 0 (by decide) w
  have q2 : ∀ w, (Instr.sliceAt 103 (.pointer (some ⟨W0, 0, none⟩)) none (some (.int .i64 0)) none).run Try.prog w = .ok (.slice (some ⟨W0, 0, none⟩) 0 4) w := fun w => cut4h W0 0 (by decide) w
  have h3d : W.drew.heap[g]? = some (.cells ([Value.int .i64 a, Value.int .i64 b, Value.int .i64 c, Value.int .i64 d]).toArray 103 (0, 0)) := h3
  have hsrc := src_cells (cs := []) h0 (by simp)
  have hwr : IntKind.i64.wrap 1 = 1 := by decide
  clear h3 h0
  go_region_law (refine step_copy_splice rfl (.tmp 26) (.tmp 28) 91 91 rfl 3 Try.underlying91 (by kernel_rfl) _ _ _ _ _ _ rfl rfl g 1 _ _ h3d ([]) rfl (fun _ => ⟨rfl, _, rfl, hsrc⟩) (by simp) (by simp) g W.drew (Below.refl _ _) (Nat.le_refl _) ?_; intro w4 hg4 hb4)
  have hrow : w4.heap[g]? = some (.cells ([Value.int .i64 a, Value.int .i64 b, Value.int .i64 c, Value.int .i64 d]).toArray 103 (0, 0)) := hg4.out
  have hz : w4.heap[g2]? = some (.cells ([Value.int .i64 0, Value.int .i64 0, Value.int .i64 0, Value.int .i64 0]).toArray 103 (0, 0)) := (hb4.block g2 HGG.out.1).trans H2.out
  have hbw : Below W0 w w4 := (show Below W0 w W.drew from ⟨HB.out.os, HB.out.tape, HB.out.output, HB.out.size, HB.out.block⟩).trans (hb4.mono HGG.out.2.1)
  have HBW := Lib.hid hbw
  have HROW := Lib.hid hrow
  have HZ := Lib.hid hz
  have k0 : w4.cell? ⟨g, 0, none⟩ = some (.int .i64 a) := by rw [cell_of_row w4 _ _ _ _ _ hrow]; rfl
  have fz0 : w4.frozen? ⟨g, 0, none⟩ = false := frozen_of_row _ _ _ _ _ hrow
  clear q1 q2 h3d hsrc hwr hb4 hg4 hbw hz hrow
  have ngg : g ≠ g2 ∧ g2 ≠ g := by have := HGG.out; omega
  obtain ⟨n1, n2⟩ := ngg
  have k1 : w4.cell? ⟨g, 1, none⟩ = some (.int .i64 b) := by rw [cell_of_row w4 _ _ _ _ _ HROW.out]; rfl
  have k2 : w4.cell? ⟨g, 2, none⟩ = some (.int .i64 c) := by rw [cell_of_row w4 _ _ _ _ _ HROW.out]; rfl
  have k3 : w4.cell? ⟨g, 3, none⟩ = some (.int .i64 d) := by rw [cell_of_row w4 _ _ _ _ _ HROW.out]; rfl
  have z0 : w4.cell? ⟨g2, 0, none⟩ = some (.int .i64 0) := by rw [cell_of_row w4 _ _ _ _ _ HZ.out]; rfl
  have f0 : w4.frozen? ⟨g2, 0, none⟩ = false := frozen_of_row _ _ _ _ _ HZ.out
  have z1 : w4.cell? ⟨g2, 1, none⟩ = some (.int .i64 0) := by rw [cell_of_row w4 _ _ _ _ _ HZ.out]; rfl
  have f1 : w4.frozen? ⟨g2, 1, none⟩ = false := frozen_of_row _ _ _ _ _ HZ.out
  have z2 : w4.cell? ⟨g2, 2, none⟩ = some (.int .i64 0) := by rw [cell_of_row w4 _ _ _ _ _ HZ.out]; rfl
  have f2 : w4.frozen? ⟨g2, 2, none⟩ = false := frozen_of_row _ _ _ _ _ HZ.out
  have z3 : w4.cell? ⟨g2, 3, none⟩ = some (.int .i64 0) := by rw [cell_of_row w4 _ _ _ _ _ HZ.out]; rfl
  have f3 : w4.frozen? ⟨g2, 3, none⟩ = false := frozen_of_row _ _ _ _ _ HZ.out
  go_wp2_with fail
  refine bodyPost_ret (v := R4V a b c d) (by simp [results, Try.results68, go_sem, z0, z1, z2, z3]) rfl ⟨rfl, ?_⟩
  have hg := HGG.out
  rw [HW0.out]
  refine Below.setCell ?_ hg.2.2 _
  refine Below.setCell ?_ hg.2.2 _
  refine Below.setCell ?_ hg.2.2 _
  refine Below.setCell ?_ hg.2.2 _
  exact Below.setCell HBW.out hg.2.1 _
set_option maxRecDepth 100000 in
set_option maxHeartbeats 2000000 in
theorem after_rep1 (a b c d : Int) (by_ : UInt8) (l dd : Int) (w : World) : Calls Try.prog 68 #[R4V a b c d, SyV 2 by_ l dd 1] w (AfterDone b a c d w) := by
  go_enter Try.func68, Try.ntmps68
  go_wp2_with fail
  go_quiet (fail)
  go_wp2_with fail
  generalize hW : ((((w.alloc _).alloc _).alloc _).drewN _).alloc _ = W
  obtain ⟨hB, h0, h2, h3⟩ := after_world2 hW
  obtain ⟨W0, hg0⟩ : ∃ g, w.heap.size = g := ⟨_, rfl⟩
  obtain ⟨g, hg⟩ : ∃ g, W0 + 1 + 1 + 1 = g := ⟨_, rfl⟩
  obtain ⟨g2, hg2⟩ : ∃ g, W0 + 1 + 1 = g := ⟨_, rfl⟩
  rw [hg0] at hB h0 h2 h3 ⊢
  rw [hg] at h3 ⊢
  rw [hg2] at h2 ⊢
  have hgg : g2 < g ∧ W0 ≤ g ∧ W0 ≤ g2 := by omega
  have HGG : Hid (g2 < g ∧ W0 ≤ g ∧ W0 ≤ g2) := Lib.hid hgg
  have HB := Lib.hid hB
  have H2 := Lib.hid h2
  have HW0 := Lib.hid hg0
  clear hg hg2 hW hgg h2 hB hg0
  have q1 : ∀ w, (Instr.sliceAt 103 (.pointer (some ⟨g, 0, none⟩)) (some (.int .i64 1)) (some (.int .i64 2)) none).run Try.prog w = .ok (.slice (some ⟨g, 1, none⟩) 1 3) w := fun w => cut4lh g 1 (by decide) w
  have q2 : ∀ w, (Instr.sliceAt 103 (.pointer (some ⟨W0, 0, none⟩)) none (some (.int .i64 1)) none).run Try.prog w = .ok (.slice (some ⟨W0, 0, none⟩) 1 4) w := fun w => cut4h W0 1 (by decide) w
  have h3d : W.drew.heap[g]? = some (.cells ([Value.int .i64 a, Value.int .i64 b, Value.int .i64 c, Value.int .i64 d]).toArray 103 (0, 0)) := h3
  have hsrc := src_cells (cs := [Value.int .i64 a]) h0 (by intro j hj; match j, hj with | 0, _ => rfl)
  have hwr : IntKind.i64.wrap 2 = 2 := by decide
  clear h3 h0
  go_region_law (refine step_copy_splice rfl (.tmp 26) (.tmp 28) 91 91 rfl 3 Try.underlying91 (by kernel_rfl) _ _ _ _ _ _ rfl rfl g 1 _ _ h3d ([Value.int .i64 a]) rfl (fun _ => ⟨rfl, _, rfl, hsrc⟩) (by simp) (by intro v hv; simp at hv; subst hv; rfl) g W.drew (Below.refl _ _) (Nat.le_refl _) ?_; intro w4 hg4 hb4)
  have hrow : w4.heap[g]? = some (.cells ([Value.int .i64 a, Value.int .i64 a, Value.int .i64 c, Value.int .i64 d]).toArray 103 (0, 0)) := hg4.out
  have hz : w4.heap[g2]? = some (.cells ([Value.int .i64 0, Value.int .i64 0, Value.int .i64 0, Value.int .i64 0]).toArray 103 (0, 0)) := (hb4.block g2 HGG.out.1).trans H2.out
  have hbw : Below W0 w w4 := (show Below W0 w W.drew from ⟨HB.out.os, HB.out.tape, HB.out.output, HB.out.size, HB.out.block⟩).trans (hb4.mono HGG.out.2.1)
  have HBW := Lib.hid hbw
  have HROW := Lib.hid hrow
  have HZ := Lib.hid hz
  have k0 : w4.cell? ⟨g, 0, none⟩ = some (.int .i64 a) := by rw [cell_of_row w4 _ _ _ _ _ hrow]; rfl
  have fz0 : w4.frozen? ⟨g, 0, none⟩ = false := frozen_of_row _ _ _ _ _ hrow
  clear q1 q2 h3d hsrc hwr hb4 hg4 hbw hz hrow
  have ngg : g ≠ g2 ∧ g2 ≠ g := by have := HGG.out; omega
  obtain ⟨n1, n2⟩ := ngg
  have k1 : w4.cell? ⟨g, 1, none⟩ = some (.int .i64 a) := by rw [cell_of_row w4 _ _ _ _ _ HROW.out]; rfl
  have k2 : w4.cell? ⟨g, 2, none⟩ = some (.int .i64 c) := by rw [cell_of_row w4 _ _ _ _ _ HROW.out]; rfl
  have k3 : w4.cell? ⟨g, 3, none⟩ = some (.int .i64 d) := by rw [cell_of_row w4 _ _ _ _ _ HROW.out]; rfl
  have z0 : w4.cell? ⟨g2, 0, none⟩ = some (.int .i64 0) := by rw [cell_of_row w4 _ _ _ _ _ HZ.out]; rfl
  have f0 : w4.frozen? ⟨g2, 0, none⟩ = false := frozen_of_row _ _ _ _ _ HZ.out
  have z1 : w4.cell? ⟨g2, 1, none⟩ = some (.int .i64 0) := by rw [cell_of_row w4 _ _ _ _ _ HZ.out]; rfl
  have f1 : w4.frozen? ⟨g2, 1, none⟩ = false := frozen_of_row _ _ _ _ _ HZ.out
  have z2 : w4.cell? ⟨g2, 2, none⟩ = some (.int .i64 0) := by rw [cell_of_row w4 _ _ _ _ _ HZ.out]; rfl
  have f2 : w4.frozen? ⟨g2, 2, none⟩ = false := frozen_of_row _ _ _ _ _ HZ.out
  have z3 : w4.cell? ⟨g2, 3, none⟩ = some (.int .i64 0) := by rw [cell_of_row w4 _ _ _ _ _ HZ.out]; rfl
  have f3 : w4.frozen? ⟨g2, 3, none⟩ = false := frozen_of_row _ _ _ _ _ HZ.out
  go_wp2_with fail
  refine bodyPost_ret (v := R4V b a c d) (by simp [results, Try.results68, go_sem, z0, z1, z2, z3]) rfl ⟨rfl, ?_⟩
  have hg := HGG.out
  rw [HW0.out]
  refine Below.setCell ?_ hg.2.2 _
  refine Below.setCell ?_ hg.2.2 _
  refine Below.setCell ?_ hg.2.2 _
  refine Below.setCell ?_ hg.2.2 _
  exact Below.setCell HBW.out hg.2.1 _
set_option maxRecDepth 100000 in
set_option maxHeartbeats 2000000 in
theorem after_rep2 (a b c d : Int) (by_ : UInt8) (l dd : Int) (w : World) : Calls Try.prog 68 #[R4V a b c d, SyV 2 by_ l dd 2] w (AfterDone c a b d w) := by
  go_enter Try.func68, Try.ntmps68
  go_wp2_with fail
  go_quiet (fail)
  go_wp2_with fail
  generalize hW : ((((w.alloc _).alloc _).alloc _).drewN _).alloc _ = W
  obtain ⟨hB, h0, h2, h3⟩ := after_world2 hW
  obtain ⟨W0, hg0⟩ : ∃ g, w.heap.size = g := ⟨_, rfl⟩
  obtain ⟨g, hg⟩ : ∃ g, W0 + 1 + 1 + 1 = g := ⟨_, rfl⟩
  obtain ⟨g2, hg2⟩ : ∃ g, W0 + 1 + 1 = g := ⟨_, rfl⟩
  rw [hg0] at hB h0 h2 h3 ⊢
  rw [hg] at h3 ⊢
  rw [hg2] at h2 ⊢
  have hgg : g2 < g ∧ W0 ≤ g ∧ W0 ≤ g2 := by omega
  have HGG : Hid (g2 < g ∧ W0 ≤ g ∧ W0 ≤ g2) := Lib.hid hgg
  have HB := Lib.hid hB
  have H2 := Lib.hid h2
  have HW0 := Lib.hid hg0
  clear hg hg2 hW hgg h2 hB hg0
  have q1 : ∀ w, (Instr.sliceAt 103 (.pointer (some ⟨g, 0, none⟩)) (some (.int .i64 1)) (some (.int .i64 3)) none).run Try.prog w = .ok (.slice (some ⟨g, 1, none⟩) 2 3) w := fun w => cut4lh g 2 (by decide) w
  have q2 : ∀ w, (Instr.sliceAt 103 (.pointer (some ⟨W0, 0, none⟩)) none (some (.int .i64 2)) none).run Try.prog w = .ok (.slice (some ⟨W0, 0, none⟩) 2 4) w := fun w => cut4h W0 2 (by decide) w
  have h3d : W.drew.heap[g]? = some (.cells ([Value.int .i64 a, Value.int .i64 b, Value.int .i64 c, Value.int .i64 d]).toArray 103 (0, 0)) := h3
  have hsrc := src_cells (cs := [Value.int .i64 a, Value.int .i64 b]) h0 (by intro j hj; match j, hj with | 0, _ | 1, _ => rfl)
  have hwr : IntKind.i64.wrap 3 = 3 := by decide
  clear h3 h0
  go_region_law (refine step_copy_splice rfl (.tmp 26) (.tmp 28) 91 91 rfl 3 Try.underlying91 (by kernel_rfl) _ _ _ _ _ _ rfl rfl g 1 _ _ h3d ([Value.int .i64 a, Value.int .i64 b]) rfl (fun _ => ⟨rfl, _, rfl, hsrc⟩) (by simp) (by intro v hv; simp at hv; rcases hv with rfl | rfl <;> rfl) g W.drew (Below.refl _ _) (Nat.le_refl _) ?_; intro w4 hg4 hb4)
  have hrow : w4.heap[g]? = some (.cells ([Value.int .i64 a, Value.int .i64 a, Value.int .i64 b, Value.int .i64 d]).toArray 103 (0, 0)) := hg4.out
  have hz : w4.heap[g2]? = some (.cells ([Value.int .i64 0, Value.int .i64 0, Value.int .i64 0, Value.int .i64 0]).toArray 103 (0, 0)) := (hb4.block g2 HGG.out.1).trans H2.out
  have hbw : Below W0 w w4 := (show Below W0 w W.drew from ⟨HB.out.os, HB.out.tape, HB.out.output, HB.out.size, HB.out.block⟩).trans (hb4.mono HGG.out.2.1)
  have HBW := Lib.hid hbw
  have HROW := Lib.hid hrow
  have HZ := Lib.hid hz
  have k0 : w4.cell? ⟨g, 0, none⟩ = some (.int .i64 a) := by rw [cell_of_row w4 _ _ _ _ _ hrow]; rfl
  have fz0 : w4.frozen? ⟨g, 0, none⟩ = false := frozen_of_row _ _ _ _ _ hrow
  clear q1 q2 h3d hsrc hwr hb4 hg4 hbw hz hrow
  have ngg : g ≠ g2 ∧ g2 ≠ g := by have := HGG.out; omega
  obtain ⟨n1, n2⟩ := ngg
  have k1 : w4.cell? ⟨g, 1, none⟩ = some (.int .i64 a) := by rw [cell_of_row w4 _ _ _ _ _ HROW.out]; rfl
  have k2 : w4.cell? ⟨g, 2, none⟩ = some (.int .i64 b) := by rw [cell_of_row w4 _ _ _ _ _ HROW.out]; rfl
  have k3 : w4.cell? ⟨g, 3, none⟩ = some (.int .i64 d) := by rw [cell_of_row w4 _ _ _ _ _ HROW.out]; rfl
  have z0 : w4.cell? ⟨g2, 0, none⟩ = some (.int .i64 0) := by rw [cell_of_row w4 _ _ _ _ _ HZ.out]; rfl
  have f0 : w4.frozen? ⟨g2, 0, none⟩ = false := frozen_of_row _ _ _ _ _ HZ.out
  have z1 : w4.cell? ⟨g2, 1, none⟩ = some (.int .i64 0) := by rw [cell_of_row w4 _ _ _ _ _ HZ.out]; rfl
  have f1 : w4.frozen? ⟨g2, 1, none⟩ = false := frozen_of_row _ _ _ _ _ HZ.out
  have z2 : w4.cell? ⟨g2, 2, none⟩ = some (.int .i64 0) := by rw [cell_of_row w4 _ _ _ _ _ HZ.out]; rfl
  have f2 : w4.frozen? ⟨g2, 2, none⟩ = false := frozen_of_row _ _ _ _ _ HZ.out
  have z3 : w4.cell? ⟨g2, 3, none⟩ = some (.int .i64 0) := by rw [cell_of_row w4 _ _ _ _ _ HZ.out]; rfl
  have f3 : w4.frozen? ⟨g2, 3, none⟩ = false := frozen_of_row _ _ _ _ _ HZ.out
  go_wp2_with fail
  refine bodyPost_ret (v := R4V c a b d) (by simp [results, Try.results68, go_sem, z0, z1, z2, z3]) rfl ⟨rfl, ?_⟩
  have hg := HGG.out
  rw [HW0.out]
  refine Below.setCell ?_ hg.2.2 _
  refine Below.setCell ?_ hg.2.2 _
  refine Below.setCell ?_ hg.2.2 _
  refine Below.setCell ?_ hg.2.2 _
  exact Below.setCell HBW.out hg.2.1 _
set_option maxRecDepth 100000 in
set_option maxHeartbeats 2000000 in
theorem after_rep3 (a b c d : Int) (by_ : UInt8) (l dd : Int) (w : World) : Calls Try.prog 68 #[R4V a b c d, SyV 2 by_ l dd 3] w (AfterDone d a b c w) := by
  go_enter Try.func68, Try.ntmps68
  go_wp2_with fail
  go_quiet (fail)
  go_wp2_with fail
  generalize hW : ((((w.alloc _).alloc _).alloc _).drewN _).alloc _ = W
  obtain ⟨hB, h0, h2, h3⟩ := after_world2 hW
  obtain ⟨W0, hg0⟩ : ∃ g, w.heap.size = g := ⟨_, rfl⟩
  obtain ⟨g, hg⟩ : ∃ g, W0 + 1 + 1 + 1 = g := ⟨_, rfl⟩
  obtain ⟨g2, hg2⟩ : ∃ g, W0 + 1 + 1 = g := ⟨_, rfl⟩
  rw [hg0] at hB h0 h2 h3 ⊢
  rw [hg] at h3 ⊢
  rw [hg2] at h2 ⊢
  have hgg : g2 < g ∧ W0 ≤ g ∧ W0 ≤ g2 := by omega
  have HGG : Hid (g2 < g ∧ W0 ≤ g ∧ W0 ≤ g2) := Lib.hid hgg
  have HB := Lib.hid hB
  have H2 := Lib.hid h2
  have HW0 := Lib.hid hg0
  clear hg hg2 hW hgg h2 hB hg0
  have q1 : ∀ w, (Instr.sliceAt 103 (.pointer (some ⟨g, 0, none⟩)) (some (.int .i64 1)) (some (.int .i64 4)) none).run Try.prog w = .ok (.slice (some ⟨g, 1, none⟩) 3 3) w := fun w => cut4lh g 3 (by decide) w
  have q2 : ∀ w, (Instr.sliceAt 103 (.pointer (some ⟨W0, 0, none⟩)) none (some (.int .i64 3)) none).run Try.prog w = .ok (.slice (some ⟨W0, 0, none⟩) 3 4) w := fun w => cut4h W0 3 (by decide) w
  have h3d : W.drew.heap[g]? = some (.cells ([Value.int .i64 a, Value.int .i64 b, Value.int .i64 c, Value.int .i64 d]).toArray 103 (0, 0)) := h3
  have hsrc := src_cells (cs := [Value.int .i64 a, Value.int .i64 b, Value.int .i64 c]) h0 (by intro j hj; match j, hj with | 0, _ | 1, _ | 2, _ => rfl)
  have hwr : IntKind.i64.wrap 4 = 4 := by decide
  clear h3 h0
  go_region_law (refine step_copy_splice rfl (.tmp 26) (.tmp 28) 91 91 rfl 3 Try.underlying91 (by kernel_rfl) _ _ _ _ _ _ rfl rfl g 1 _ _ h3d ([Value.int .i64 a, Value.int .i64 b, Value.int .i64 c]) rfl (fun _ => ⟨rfl, _, rfl, hsrc⟩) (by simp) (by intro v hv; simp at hv; rcases hv with rfl | rfl | rfl <;> rfl) g W.drew (Below.refl _ _) (Nat.le_refl _) ?_; intro w4 hg4 hb4)
  have hrow : w4.heap[g]? = some (.cells ([Value.int .i64 a, Value.int .i64 a, Value.int .i64 b, Value.int .i64 c]).toArray 103 (0, 0)) := hg4.out
  have hz : w4.heap[g2]? = some (.cells ([Value.int .i64 0, Value.int .i64 0, Value.int .i64 0, Value.int .i64 0]).toArray 103 (0, 0)) := (hb4.block g2 HGG.out.1).trans H2.out
  have hbw : Below W0 w w4 := (show Below W0 w W.drew from ⟨HB.out.os, HB.out.tape, HB.out.output, HB.out.size, HB.out.block⟩).trans (hb4.mono HGG.out.2.1)
  have HBW := Lib.hid hbw
  have HROW := Lib.hid hrow
  have HZ := Lib.hid hz
  have k0 : w4.cell? ⟨g, 0, none⟩ = some (.int .i64 a) := by rw [cell_of_row w4 _ _ _ _ _ hrow]; rfl
  have fz0 : w4.frozen? ⟨g, 0, none⟩ = false := frozen_of_row _ _ _ _ _ hrow
  clear q1 q2 h3d hsrc hwr hb4 hg4 hbw hz hrow
  have ngg : g ≠ g2 ∧ g2 ≠ g := by have := HGG.out; omega
  obtain ⟨n1, n2⟩ := ngg
  have k1 : w4.cell? ⟨g, 1, none⟩ = some (.int .i64 a) := by rw [cell_of_row w4 _ _ _ _ _ HROW.out]; rfl
  have k2 : w4.cell? ⟨g, 2, none⟩ = some (.int .i64 b) := by rw [cell_of_row w4 _ _ _ _ _ HROW.out]; rfl
  have k3 : w4.cell? ⟨g, 3, none⟩ = some (.int .i64 c) := by rw [cell_of_row w4 _ _ _ _ _ HROW.out]; rfl
  have z0 : w4.cell? ⟨g2, 0, none⟩ = some (.int .i64 0) := by rw [cell_of_row w4 _ _ _ _ _ HZ.out]; rfl
  have f0 : w4.frozen? ⟨g2, 0, none⟩ = false := frozen_of_row _ _ _ _ _ HZ.out
  have z1 : w4.cell? ⟨g2, 1, none⟩ = some (.int .i64 0) := by rw [cell_of_row w4 _ _ _ _ _ HZ.out]; rfl
  have f1 : w4.frozen? ⟨g2, 1, none⟩ = false := frozen_of_row _ _ _ _ _ HZ.out
  have z2 : w4.cell? ⟨g2, 2, none⟩ = some (.int .i64 0) := by rw [cell_of_row w4 _ _ _ _ _ HZ.out]; rfl
  have f2 : w4.frozen? ⟨g2, 2, none⟩ = false := frozen_of_row _ _ _ _ _ HZ.out
  have z3 : w4.cell? ⟨g2, 3, none⟩ = some (.int .i64 0) := by rw [cell_of_row w4 _ _ _ _ _ HZ.out]; rfl
  have f3 : w4.frozen? ⟨g2, 3, none⟩ = false := frozen_of_row _ _ _ _ _ HZ.out
  go_wp2_with fail
  refine bodyPost_ret (v := R4V d a b c) (by simp [results, Try.results68, go_sem, z0, z1, z2, z3]) rfl ⟨rfl, ?_⟩
  have hg := HGG.out
  rw [HW0.out]
  refine Below.setCell ?_ hg.2.2 _
  refine Below.setCell ?_ hg.2.2 _
  refine Below.setCell ?_ hg.2.2 _
  refine Below.setCell ?_ hg.2.2 _
  exact Below.setCell HBW.out hg.2.1 _
-- walks>
end Go.Proofs.Ytkckjjchfccdjaa
