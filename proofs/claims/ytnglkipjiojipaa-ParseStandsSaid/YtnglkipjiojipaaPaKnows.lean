/- The parser's examples. -/
import Derived.Test.YtnglkipjiojipaaPaSyms
import Derived.Lib.SlBytesConst
import Derived.Deep.CutBlock
import Derived.Deep.DeepCutAuto
namespace Go.Proofs.Ytnglkipjiojipaa
open Go.RowKit

set_option maxRecDepth 100000 in
theorem Symbols_nil (v : Value) (p tt : Int) (r : R4) (hv : ∃ A n c, v = .slice A n c) (w : World) : Calls Try.prog 6 #[.pointer none, v, .int .i64 p, .int .i64 tt, r.val] w fun e w' => e = .returned (.tuple #[.slice none 0 0, R4V 0 0 0 0, .int .i64 1]) ∧ Below w.heap.size w w' := by
  obtain ⟨A, n, c, rfl⟩ := hv
  go_enter Try.func6, Try.ntmps6
  go_upto_region 1 with fail
  generalize hW : ((((w.alloc _).alloc _).alloc _).alloc _).alloc _ = W
  obtain ⟨hb, x5, x6, x8, x9, x11, hsz⟩ := boxesS hW
  have hge : w.heap.size ≤ w.heap.size + 1 + 1 + 1 + 1 := by omega
  obtain ⟨b11, e1⟩ : ∃ b, w.heap.size + 1 + 1 + 1 + 1 = b := ⟨_, rfl⟩
  rw [e1] at x11 hge ⊢
  have c5 := x5.cell
  have z0 : W.cell? ⟨b11, 0, none⟩ = some (.int .i64 0) := by rw [cell_of_row W _ _ _ _ _ x11]; rfl
  have z1 : W.cell? ⟨b11, 1, none⟩ = some (.int .i64 0) := by rw [cell_of_row W _ _ _ _ _ x11]; rfl
  have z2 : W.cell? ⟨b11, 2, none⟩ = some (.int .i64 0) := by rw [cell_of_row W _ _ _ _ _ x11]; rfl
  have z3 : W.cell? ⟨b11, 3, none⟩ = some (.int .i64 0) := by rw [cell_of_row W _ _ _ _ _ x11]; rfl
  have f0 : W.frozen? ⟨b11, 0, none⟩ = false := frozen_of_row _ _ _ _ _ x11
  have f1 : W.frozen? ⟨b11, 1, none⟩ = false := frozen_of_row _ _ _ _ _ x11
  have f2 : W.frozen? ⟨b11, 2, none⟩ = false := frozen_of_row _ _ _ _ _ x11
  have f3 : W.frozen? ⟨b11, 3, none⟩ = false := frozen_of_row _ _ _ _ _ x11
  have HB := Lib.hid hb
  have HGE := Lib.hid hge
  clear hW hb x5 x6 x8 x9 x11 hsz e1 hge
  go_wp2_with fail
  refine bodyPost_ret (v := .tuple #[.slice none 0 0, R4V 0 0 0 0, .int .i64 1]) (by simp [results, Try.results6, go_sem, z0, z1, z2, z3]) rfl ⟨rfl, ?_⟩
  exact (((HB.out.setCell (p := ⟨b11, 0, none⟩) HGE.out _).setCell (p := ⟨b11, 1, none⟩) HGE.out _).setCell (p := ⟨b11, 2, none⟩) HGE.out _).setCell (p := ⟨b11, 3, none⟩) HGE.out _
def exQ : List UInt8 := [97, 97, 97, 97]
def exQV : Array Value := #[.int .u8 97, .int .u8 97, .int .u8 97, .int .u8 97]
theorem exQ_syms : symsOf exQ 9 273 4 4 0 (1, 1, 1, 1) = ([⟨0, 97, 0, 0, 0⟩, ⟨2, 0, 3, 0, 0⟩], (1, 1, 1, 1)) := by decide +kernel
theorem exQ_bytes (w : World) (x : Nat × Nat) : Bytes (w.alloc (.cells exQV 5 x)) (some ⟨w.heap.size, 0, none⟩) exQ := by
  refine .inr ⟨_, _, rfl, by simp, fun k hk => ?_⟩
  rw [cell_of_row _ _ _ exQV 5 x (heap_alloc_last _ _), Nat.zero_add]
  have hk9 : k < 4 := by simpa [exQ] using hk
  match k, hk9 with
  | 0, _ | 1, _ | 2, _ | 3, _ => rfl
theorem eqOnes (w : World) : (binOp .eql 29 (.agg #[.int .i64 1, .int .i64 1, .int .i64 1, .int .i64 1]) (.agg #[.int .i64 1, .int .i64 1, .int .i64 1, .int .i64 1])).run Try.prog w = .ok (.bool true) w := by
  first | rfl | kernel_rfl
set_option maxRecDepth 100000 in
set_option maxHeartbeats 2000000 in
theorem knows_any (w : World) : Calls Try.prog 4 #[] w (Holds w) := by
  have kc := fun (w : World) (C : Array Value) (n c : Nat) => Lib.run_convert_bytes_const (P := Try.prog) w 22 5 C n c Try.underlying22 Try.underlying5
  go_enter Try.func4, Try.ntmps4
  go_wp2_with fail
  have hB1 := exQ_bytes w (4, 5)
  unfold exQV at hB1
  have HB1 := Lib.hid ((Below.refl w.heap.size w).alloc (Nat.le_refl _) (.cells #[.int .u8 97, .int .u8 97, .int .u8 97, .int .u8 97] 5 (4, 5)))
  refine (New_any _ exQ 4 9 273 _ hB1 (by simp [exQ]) (by simp [exQ]) (by decide) (by decide) (by decide)).mono ?_
  rintro e w1 ⟨F, A, c, mp, B, rfl, hR, hb⟩
  have HR := Lib.hid hR
  have HB2 := Lib.hid (HB1.out.trans (hb.mono HB1.out.size))
  clear hR hb hB1
  go_wp2_with fail
  have hB2 := exQ_bytes w1 (4, 5)
  unfold exQV at hB2
  have hb3 : Below w1.heap.size w1 (w1.alloc (.cells #[.int .u8 97, .int .u8 97, .int .u8 97, .int .u8 97] 5 (4, 5))) := (Below.refl w1.heap.size w1).alloc (Nat.le_refl _) _
  have HB3 := Lib.hid (HB2.out.trans (hb3.mono HB2.out.size))
  have HSY := Lib.hid (Symbols_any F A (some ⟨w1.heap.size, 0, none⟩) c 4 exQ 9 273 mp B 0 4 (1, 1, 1, 1) _ (HR.out.below hb3) hB2 (by simp [exQ]) (by decide) (by simp [exQ]))
  rw [show (4 : Nat) - 0 = 4 from rfl, exQ_syms] at HSY
  clear hB2 hb3
  refine HSY.out.mono ?_
  rintro e w2 ⟨v, rfl, ho, hb⟩
  obtain ⟨g, cap, rfl, hgg, hcap, hcm, hat⟩ := ho.read (by decide)
  obtain ⟨a0, a1, a2, a3, a4⟩ := hat 0 (by decide)
  obtain ⟨d0, d1, d2, d3, d4⟩ := hat 1 (by decide)
  have HG := Lib.hid hgg
  have HAT := Lib.hid (And.intro (And.intro a0 (And.intro a1 (And.intro a2 (And.intro a3 a4)))) (And.intro d0 (And.intro d1 (And.intro d2 (And.intro d3 d4)))))
  have HB4 := Lib.hid (HB3.out.trans (hb.mono HB3.out.size))
  clear ho hb hat a0 a1 a2 a3 a4 d0 d1 d2 d3 d4 hgg
  go_wp2_with fail
  obtain ⟨W3, hW3⟩ : ∃ W3, w2.alloc (.cells #[.int .i64 1, .int .i64 1, .int .i64 1, .int .i64 1] 29) = W3 := ⟨_, rfl⟩
  rw [hW3]
  have hb3 : Below w2.heap.size w2 W3 := by rw [← hW3]; exact (Below.refl _ _).alloc (Nat.le_refl _) _
  have hr3 : W3.heap[w2.heap.size]? = some (.cells [.int .i64 1, .int .i64 1, .int .i64 1, .int .i64 1].toArray 29 (0, 0)) := by rw [← hW3]; exact heap_alloc_last _ _
  have HB5 := Lib.hid hb3
  have HR3 := Lib.hid hr3
  clear hW3 hb3 hr3
  refine (Symbols_nil (.slice none 0 0) 0 0 (0, 0, 0, 0) ⟨_, _, _, rfl⟩ W3).mono ?_
  rintro e w4 ⟨rfl, hb4⟩
  have hb24 := HB5.out.trans (hb4.mono HB5.out.size)
  have hr4 := (hb4.block _ (Array.getElem?_eq_some_iff.1 HR3.out).1).trans HR3.out
  obtain ⟨W5, hW5⟩ : ∃ W5, w4.alloc (.cells #[.int .i64 0, .int .i64 0, .int .i64 0, .int .i64 0] 29) = W5 := ⟨_, rfl⟩
  have hb25 : Below w2.heap.size w2 W5 := by rw [← hW5]; exact hb24.alloc hb24.size _
  have hr5 : W5.heap[w2.heap.size]? = _ := (by rw [← hW5]; exact (Below.heap_alloc _ _ _ (Array.getElem?_eq_some_iff.1 hr4).1).trans hr4 : W5.heap[w2.heap.size]? = some (.cells [.int .i64 1, .int .i64 1, .int .i64 1, .int .i64 1].toArray 29 (0, 0)))
  have HW5 := Lib.hid hW5
  have HB25 := Lib.hid hb25
  have HR5 := Lib.hid hr5
  clear hW5 hb4 hb24 hr4 hb25 hr5
  go_upto_region 6 with fail
  rw [HW5.out]
  have up := fun (j : Nat) => (HB25.out.cell (p := ⟨g, j, none⟩) HG.out)
  obtain ⟨⟨a0, a1, a2, a3, a4⟩, d0, d1, d2, d3, d4⟩ := HAT.out
  rw [← up] at a0 a1 a2 a3 a4 d0 d1 d2 d3 d4
  have t0 : W5.cell? ⟨w2.heap.size, 0, none⟩ = some (.int .i64 1) := by rw [cell_of_row W5 _ _ _ _ _ HR5.out]; rfl
  have t1 : W5.cell? ⟨w2.heap.size, 1, none⟩ = some (.int .i64 1) := by rw [cell_of_row W5 _ _ _ _ _ HR5.out]; rfl
  have t2 : W5.cell? ⟨w2.heap.size, 2, none⟩ = some (.int .i64 1) := by rw [cell_of_row W5 _ _ _ _ _ HR5.out]; rfl
  have t3 : W5.cell? ⟨w2.heap.size, 3, none⟩ = some (.int .i64 1) := by rw [cell_of_row W5 _ _ _ _ _ HR5.out]; rfl
  clear up
  have heq := eqOnes
  go_wp2_with fail
  go_ret
  exact ⟨rfl, HB4.out.trans (HB25.out.mono HB4.out.size)⟩
end Go.Proofs.Ytnglkipjiojipaa
