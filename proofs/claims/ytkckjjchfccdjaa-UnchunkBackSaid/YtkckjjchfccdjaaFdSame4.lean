/- The finder's sameFour. -/
import Derived.Test.YtkckjjchfccdjaaMg1
import Derived.Test.YtkckjjchfccdjaaMg18
import Derived.Deep.RegionHeld3
import Derived.Deep.DeepCutAuto
namespace Go.Proofs.Ytkckjjchfccdjaa
set_option maxRecDepth 100000
open Go.RowKit Go.Maps

set_option maxRecDepth 100000 in
set_option maxHeartbeats 2000000 in
theorem sameFour_any (A : Option Addr) (l : List UInt8) (c n : Nat) (w : World) (hB : Bytes w A l) (hc : l.length ≤ c) (hl : l.length ≤ 100000) (hn : n = l.length - 3) :
    Calls Try.prog 31 #[.slice A l.length c] w fun e w' => e = .returned (.slice (some ⟨w.heap.size + 1, 0, none⟩) n n) ∧ w'.heap[w.heap.size + 1]? = some (.cells (prevs l n).toArray 21 (0, 0)) ∧ Below w.heap.size w w' := by
  have hci : (l.length : Int) ≤ (c : Int) := by omega
  have hli : (l.length : Int) ≤ 100000 := by omega
  have hmx : max ((l.length : Int) - 3) 0 = (n : Int) := by omega
  have hn6 : n ≤ 1000000 := by omega
  have hni : (n : Int) ≤ 100000 := by omega
  have HBY := Lib.hid hB
  have HN := Lib.hid hn
  have hmm : ∀ w : World, (Instr.makeMap 123 none).run Try.prog w = .ok (.map (some w.heap.size)) (w.alloc (.map #[] 0)) := fun w => run_makeMap _ w
  clear hB hn hl hc
  go_enter Try.func31, Try.ntmps31
  go_wp2_with (at_make; refine wpList_make_i32 rfl (.tmp 13) (.tmp 13) rfl n (w.alloc (.map #[] 0)) rfl rfl hn6 ?_; intro w1 hrow hg)
  have hb1 : Below w.heap.size w w1 := below_grown ((Below.refl _ _).alloc (Nat.le_refl _) _) hg (by simp) (fun g e => by cases e)
  have hsz1 : (w.alloc (.map #[] 0)).heap.size = w.heap.size + 1 := by simp
  have HMP : Hid (LastAt w1 w.heap.size l 0) := Lib.hid ((LastAt.made w l).keep (hg.block _ (by rw [hsz1]; omega) (by simp)))
  rw [hsz1] at hrow
  have HROW := Lib.hid hrow
  have HB1 := Lib.hid hb1
  clear hrow hg hb1 hsz1
  go_loopw [17] (fun i wr => ∃ k : Nat, k ≤ n ∧ i = .int .i64 (k : Nat) ∧ Hid (wr.heap[w.heap.size + 1]? = some (.cells (prevs l k ++ List.replicate (n - k) (Value.int .i32 0)).toArray 21 (0, 0))) ∧ Hid (LastAt wr w.heap.size l k) ∧ Hid (Below w.heap.size w wr)) (fun i _ => n - (intOf i).toNat)
  case atStart => exact ⟨0, by omega, rfl, Lib.hid (by rw [Nat.sub_zero]; exact HROW.out), HMP, HB1⟩
  case round =>
    obtain ⟨k, hk, rfl, HR, HL, HB⟩ := hrel
    by_cases hkl : k < n
    · have hki : (k : Int) < (n : Int) := by omega
      have hk3 : (k : Int) + 3 < (l.length : Int) := by have := HN.out; omega
      obtain ⟨b, off, rfl, hbl, hat⟩ := (HBY.out.below HB.out).addr (by omega)
      have hx0 := hat k (by omega)
      have hx1 := hat (k + 1) (by omega)
      have hx2 := hat (k + 2) (by omega)
      have hx3 := hat (k + 3) (by omega)
      have e0 := getD_of (d := l) (i := k) (by omega)
      have e1 := getD_of (d := l) (i := k + 1) (by omega)
      have e2 := getD_of (d := l) (i := k + 2) (by omega)
      have e3 := getD_of (d := l) (i := k + 3) (by omega)
      generalize l[k]'(by omega) = z0 at *
      generalize l[k + 1]'(by omega) = z1 at *
      generalize l[k + 2]'(by omega) = z2 at *
      generalize l[k + 3]'(by omega) = z3 at *
      have HFO : Hid (four l k = (z0, z1, z2, z3)) := Lib.hid (by unfold four; rw [e0, e1, e2, e3])
      obtain ⟨y1, hy1⟩ : ∃ y : Nat, k + 1 = y := ⟨_, rfl⟩
      obtain ⟨y2, hy2⟩ : ∃ y : Nat, k + 2 = y := ⟨_, rfl⟩
      obtain ⟨y3, hy3⟩ : ∃ y : Nat, k + 3 = y := ⟨_, rfl⟩
      rw [hy1] at hx1
      rw [hy2] at hx2
      rw [hy3] at hx3
      have k1 : (k : Int) + 1 = (y1 : Int) := by omega
      have k2 : (k : Int) + 2 = (y2 : Int) := by omega
      have k3 : (k : Int) + 3 = (y3 : Int) := by omega
      have l1 : (y1 : Int) < (l.length : Int) := by omega
      have l2 : (y2 : Int) < (l.length : Int) := by omega
      have l3 : (y3 : Int) < (l.length : Int) := by omega
      have l0 : (k : Int) < (l.length : Int) := by omega
      have HC := Lib.hid (fun (wx : World) (h : wx.heap[b]? = wr.heap[b]?) => (show wx.cell? ⟨b, off + k, none⟩ = some (.int .u8 (z0.toNat : Nat)) ∧ wx.cell? ⟨b, off + y1, none⟩ = some (.int .u8 (z1.toNat : Nat)) ∧ wx.cell? ⟨b, off + y2, none⟩ = some (.int .u8 (z2.toNat : Nat)) ∧ wx.cell? ⟨b, off + y3, none⟩ = some (.int .u8 (z3.toNat : Nat)) from by
        refine ⟨?_, ?_, ?_, ?_⟩
        · rw [← hx0]; unfold World.cell?; rw [h]
        · rw [← hx1]; unfold World.cell?; rw [h]
        · rw [← hx2]; unfold World.cell?; rw [h]
        · rw [← hx3]; unfold World.cell?; rw [h]))
      have v1 : IntKind.i64.wrap (y1 : Int) = (y1 : Int) := IntWalk.i64_in _ (by omega)
      have v2 : IntKind.i64.wrap (y2 : Int) = (y2 : Int) := IntWalk.i64_in _ (by omega)
      have v3 : IntKind.i64.wrap (y3 : Int) = (y3 : Int) := IntWalk.i64_in _ (by omega)
      clear hat e0 e1 e2 e3 hy1 hy2 hy3 hk3 hx0 hx1 hx2 hx3
      go_wp2_with fail
      refine wp_region_held_drew (S := fun w2 => w2.heap[b]? = wr.drew.heap[b]?) (by kernel_rfl) rfl (fun hS => ?_)
      refine tk 0 (v := ?vsf1) ?ysf1 hS ?_
      case ysf1 =>
        intro w hSw
        obtain ⟨i0, i1, i2, i3⟩ := HC.out w hSw
        go_simp; all_goals (with_reducible rfl)
      simp only [Act.put, List.setIfInBounds_toArray, List.set_cons_zero, List.set_cons_succ]
      refine tk 1 (v := ?vsf2) ?ysf2 hS ?_
      case ysf2 =>
        intro w hSw
        obtain ⟨i0, i1, i2, i3⟩ := HC.out w hSw
        go_simp; all_goals (with_reducible rfl)
      simp only [Act.put, List.setIfInBounds_toArray, List.set_cons_zero, List.set_cons_succ]
      refine tk 2 (v := ?vsf3) ?ysf3 hS ?_
      case ysf3 =>
        intro w hSw
        obtain ⟨i0, i1, i2, i3⟩ := HC.out w hSw
        go_simp; all_goals (with_reducible rfl)
      simp only [Act.put, List.setIfInBounds_toArray, List.set_cons_zero, List.set_cons_succ]
      refine tk 3 (v := ?vsf4) ?ysf4 hS ?_
      case ysf4 =>
        intro w hSw
        obtain ⟨i0, i1, i2, i3⟩ := HC.out w hSw
        go_simp; all_goals (with_reducible rfl)
      simp only [Act.put, List.setIfInBounds_toArray, List.set_cons_zero, List.set_cons_succ]
      refine tk 4 (v := ?vsf5) ?ysf5 hS ?_
      case ysf5 =>
        intro w hSw
        obtain ⟨i0, i1, i2, i3⟩ := HC.out w hSw
        go_simp; all_goals (with_reducible rfl)
      simp only [Act.put, List.setIfInBounds_toArray, List.set_cons_zero, List.set_cons_succ]
      refine tk 5 (v := ?vsf6) ?ysf6 hS ?_
      case ysf6 =>
        intro w hSw
        obtain ⟨i0, i1, i2, i3⟩ := HC.out w hSw
        go_simp; all_goals (with_reducible rfl)
      simp only [Act.put, List.setIfInBounds_toArray, List.set_cons_zero, List.set_cons_succ]
      refine tk 6 (v := ?vsf7) ?ysf7 hS ?_
      case ysf7 =>
        intro w hSw
        obtain ⟨i0, i1, i2, i3⟩ := HC.out w hSw
        go_simp; all_goals (with_reducible rfl)
      simp only [Act.put, List.setIfInBounds_toArray, List.set_cons_zero, List.set_cons_succ]
      refine tk 7 (v := ?vsf8) ?ysf8 hS ?_
      case ysf8 =>
        intro w hSw
        obtain ⟨i0, i1, i2, i3⟩ := HC.out w hSw
        go_simp; all_goals (with_reducible rfl)
      simp only [Act.put, List.setIfInBounds_toArray, List.set_cons_zero, List.set_cons_succ]
      refine tk 8 (v := ?vsf9) ?ysf9 hS ?_
      case ysf9 =>
        intro w hSw
        obtain ⟨i0, i1, i2, i3⟩ := HC.out w hSw
        go_simp; all_goals (with_reducible rfl)
      simp only [Act.put, List.setIfInBounds_toArray, List.set_cons_zero, List.set_cons_succ]
      refine tk 9 (v := ?vsf10) ?ysf10 hS ?_
      case ysf10 =>
        intro w hSw
        obtain ⟨i0, i1, i2, i3⟩ := HC.out w hSw
        go_simp; all_goals (with_reducible rfl)
      simp only [Act.put, List.setIfInBounds_toArray, List.set_cons_zero, List.set_cons_succ]
      refine tk 10 (v := ?vsf11) ?ysf11 hS ?_
      case ysf11 =>
        intro w hSw
        obtain ⟨i0, i1, i2, i3⟩ := HC.out w hSw
        go_simp; all_goals (with_reducible rfl)
      simp only [Act.put, List.setIfInBounds_toArray, List.set_cons_zero, List.set_cons_succ]
      refine tk 11 (v := ?vsf12) ?ysf12 hS ?_
      case ysf12 =>
        intro w hSw
        obtain ⟨i0, i1, i2, i3⟩ := HC.out w hSw
        go_simp; all_goals (with_reducible rfl)
      simp only [Act.put, List.setIfInBounds_toArray, List.set_cons_zero, List.set_cons_succ]
      refine tk 12 (v := ?vsf13) ?ysf13 hS ?_
      case ysf13 =>
        intro w hSw
        obtain ⟨i0, i1, i2, i3⟩ := HC.out w hSw
        go_simp; all_goals (with_reducible rfl)
      simp only [Act.put, List.setIfInBounds_toArray, List.set_cons_zero, List.set_cons_succ]
      refine tk 13 (v := ?vsf14) ?ysf14 hS ?_
      case ysf14 =>
        intro w hSw
        obtain ⟨i0, i1, i2, i3⟩ := HC.out w hSw
        go_simp; all_goals (with_reducible rfl)
      simp only [Act.put, List.setIfInBounds_toArray, List.set_cons_zero, List.set_cons_succ]
      refine tk 14 (v := ?vsf15) ?ysf15 hS ?_
      case ysf15 =>
        intro w hSw
        obtain ⟨i0, i1, i2, i3⟩ := HC.out w hSw
        go_simp; all_goals (with_reducible rfl)
      simp only [Act.put, List.setIfInBounds_toArray, List.set_cons_zero, List.set_cons_succ]
      refine tk 15 (v := ?vsf16) ?ysf16 hS ?_
      case ysf16 =>
        intro w hSw
        obtain ⟨i0, i1, i2, i3⟩ := HC.out w hSw
        go_simp; all_goals (with_reducible rfl)
      simp only [Act.put, List.setIfInBounds_toArray, List.set_cons_zero, List.set_cons_succ]
      refine tk 16 (v := ?vsf17) ?ysf17 hS ?_
      case ysf17 =>
        intro w hSw
        obtain ⟨i0, i1, i2, i3⟩ := HC.out w hSw
        go_simp; all_goals (with_reducible rfl)
      simp only [Act.put, List.setIfInBounds_toArray, List.set_cons_zero, List.set_cons_succ]
      refine tk 17 (v := ?vsf18) ?ysf18 hS ?_
      case ysf18 =>
        intro w hSw
        obtain ⟨i0, i1, i2, i3⟩ := HC.out w hSw
        go_simp; all_goals (with_reducible rfl)
      simp only [Act.put, List.setIfInBounds_toArray, List.set_cons_zero, List.set_cons_succ]
      refine tk 18 (v := ?vsf19) ?ysf19 hS ?_
      case ysf19 =>
        intro w hSw
        obtain ⟨i0, i1, i2, i3⟩ := HC.out w hSw
        go_simp; all_goals (with_reducible rfl)
      simp only [Act.put, List.setIfInBounds_toArray, List.set_cons_zero, List.set_cons_succ]
      refine tk 19 (v := ?vsf20) ?ysf20 hS ?_
      case ysf20 =>
        intro w hSw
        obtain ⟨i0, i1, i2, i3⟩ := HC.out w hSw
        go_simp; all_goals (with_reducible rfl)
      simp only [Act.put, List.setIfInBounds_toArray, List.set_cons_zero, List.set_cons_succ]
      refine wpAnyH_ready (rs := [20]) (by kernel_rfl) (by simp) ?_
      refine (AllReadyH.cons (o := { dst := some 6, op := Op.alloc 124, type := 0, pos := "finder.go:125", after := #[], guard := none }) rfl (fun K hK => ?_) AllReadyH.nil)
      go_simp
      refine hK.out _ _ (Below.heap_alloc _ _ _ hbl) (fun _ => ?_)
      clear hK K
      refine wpAnyH_ready (rs := [21]) (by kernel_rfl) (by simp) ?_
      refine (AllReadyH.cons (o := { dst := none, op := Op.store 124 (Operand.tmp 6) (Operand.tmp 39), type := 0, pos := "finder.go:125", after := #[{ on := 20, ground := Ground.data }, { on := 19, ground := Ground.data }, { on := 0, ground := Ground.phase }, { on := 1, ground := Ground.phase }, { on := 2, ground := Ground.phase }, { on := 3, ground := Ground.phase }, { on := 4, ground := Ground.phase }, { on := 5, ground := Ground.phase }, { on := 6, ground := Ground.phase }, { on := 7, ground := Ground.phase }, { on := 8, ground := Ground.phase }, { on := 9, ground := Ground.phase }, { on := 10, ground := Ground.phase }, { on := 11, ground := Ground.phase }, { on := 12, ground := Ground.phase }, { on := 13, ground := Ground.phase }, { on := 14, ground := Ground.phase }, { on := 15, ground := Ground.phase }, { on := 16, ground := Ground.phase }, { on := 17, ground := Ground.phase }, { on := 18, ground := Ground.phase }, { on := 19, ground := Ground.phase }, { on := 20, ground := Ground.phase }], guard := none }) rfl (fun K hK => ?_) AllReadyH.nil)
      go_simp
      refine hK.out _ _ (Below.heap_alloc _ _ _ hbl) (fun _ => ?_)
      clear hK K
      refine wpAnyH_done (by kernel_rfl) ?_ _
      obtain ⟨W2, hW2⟩ : ∃ W2, (wr.alloc (.cells #[.int .u8 (z0.toNat : Nat), .int .u8 (z1.toNat : Nat), .int .u8 (z2.toNat : Nat), .int .u8 (z3.toNat : Nat)] 124)).drew = W2 := ⟨_, rfl⟩
      rw [hW2]
      have hb2 : Below wr.heap.size wr W2 := by
        rw [← hW2]
        have h := (Below.refl wr.heap.size wr).alloc (Nat.le_refl _) (.cells #[.int .u8 (z0.toNat : Nat), .int .u8 (z1.toNat : Nat), .int .u8 (z2.toNat : Nat), .int .u8 (z3.toNat : Nat)] 124)
        exact ⟨h.os, h.tape, h.output, h.size, h.block⟩
      have hbx : W2.heap[wr.heap.size]? = some (.cells #[.int .u8 (z0.toNat : Nat), .int .u8 (z1.toNat : Nat), .int .u8 (z2.toNat : Nat), .int .u8 (z3.toNat : Nat)] 124 (0, 0)) := by
        rw [← hW2]; exact heap_alloc_last _ _
      have hgl : w.heap.size + 1 < wr.heap.size := (Array.getElem?_eq_some_iff.1 HR.out).1
      have hr2 := (hb2.block _ hgl).trans HR.out
      have hl2 : LastAt W2 w.heap.size l k := HL.out.keep (hb2.block _ (by omega))
      have hbB : Below w.heap.size w W2 := HB.out.trans (hb2.mono (by omega))
      clear hW2 hb2 hS
      have c1 : W2.cell? ⟨w.heap.size + 1, k, none⟩ = some (.int .i32 0) := by
        rw [cell_of_row W2 _ _ _ _ _ hr2, List.getElem?_toArray, List.getElem?_append_right (by simp [prevs]), show (prevs l k).length = k from by simp [prevs], Nat.sub_self, List.getElem?_replicate, if_pos (by omega)]
      have f1 : W2.frozen? ⟨w.heap.size + 1, k, none⟩ = false := by simp [World.frozen?, hr2]
      obtain ⟨W3, hW3⟩ : ∃ W3, W2.setCell ⟨w.heap.size + 1, k, none⟩ (.int .i32 (-1)) = W3 := ⟨_, rfl⟩
      have hr3 := heap_set hr2 k (.int .i32 (-1))
      have hbx3 := (show W3.heap[wr.heap.size]? = W2.heap[wr.heap.size]? from by rw [← hW3, heap_setCell_other _ _ _ _ (by simp; omega)]).trans hbx
      have hl3 : LastAt W3 w.heap.size l k := hl2.keep (by rw [← hW3, heap_setCell_other _ _ _ _ (by simp)])
      have hbB3 : Below w.heap.size w W3 := by rw [← hW3]; exact Below.setCell (p := ⟨w.heap.size + 1, k, none⟩) hbB (by simp) _
      rw [hW3] at hr3
      have HW3 := Lib.hid hW3
      have HR2 := Lib.hid hr2
      obtain ⟨cc, hlk, hcc⟩ := hl3.look (z0, z1, z2, z3)
      have HCC := Lib.hid hcc
      have x0 : W3.cell? ⟨wr.heap.size, 0, none⟩ = some (.int .u8 (z0.toNat : Nat)) := by rw [cell_of_row W3 _ _ _ _ _ hbx3]; rfl
      have x1 : W3.cell? ⟨wr.heap.size, 1, none⟩ = some (.int .u8 (z1.toNat : Nat)) := by rw [cell_of_row W3 _ _ _ _ _ hbx3]; rfl
      have x2 : W3.cell? ⟨wr.heap.size, 2, none⟩ = some (.int .u8 (z2.toNat : Nat)) := by rw [cell_of_row W3 _ _ _ _ _ hbx3]; rfl
      have x3 : W3.cell? ⟨wr.heap.size, 3, none⟩ = some (.int .u8 (z3.toNat : Nat)) := by rw [cell_of_row W3 _ _ _ _ _ hbx3]; rfl
      simp only [keyOf4, fourV] at hlk
      have HR3 := Lib.hid hr3
      have HL3 := Lib.hid hl3
      have HB3 := Lib.hid hbB3
      clear hW3 hr2 hl2 hbB hbx hcc hr3 hl3 hbB3
      go_upto_region 8 with fail
      rw [HW3.out]
      have hw32 : IntKind.i32.wrap (k : Int) = (k : Int) := by
        have e1 : IntKind.i32.min = -2147483648 := rfl
        have e2 : IntKind.i32.max = 2147483647 := rfl
        first | exact IntWalk.i32_in _ (by omega) | (unfold IntKind.wrap; simp; omega)
      have hg4 : w.heap.size + 1 < W3.heap.size := (Array.getElem?_eq_some_iff.1 HR3.out).1
      have hmb : w.heap.size < W3.heap.size := by omega
      cases hs : seen l (z0, z1, z2, z3) k with
      | true =>
        rw [hs] at hlk
        have HCE := Lib.hid (HCC.out hs)
        have c3 : W3.cell? ⟨w.heap.size + 1, k, none⟩ = some (.int .i32 (-1)) := by
          rw [cell_of_row W3 _ _ _ _ _ HR3.out, List.getElem?_toArray, List.getElem?_set_self (by rw [List.length_append, prevs_len, List.length_replicate]; omega)]
        have f3 : W3.frozen? ⟨w.heap.size + 1, k, none⟩ = false := by simp [World.frozen?, HR3.out]
        obtain ⟨W4, hW4⟩ : ∃ W4, W3.setCell ⟨w.heap.size + 1, k, none⟩ (.int .i32 cc) = W4 := ⟨_, rfl⟩
        have hbx4 := (show W4.heap[wr.heap.size]? = W3.heap[wr.heap.size]? from by rw [← hW4, heap_setCell_other _ _ _ _ (by simp; omega)]).trans hbx3
        have y0 : W4.cell? ⟨wr.heap.size, 0, none⟩ = some (.int .u8 (z0.toNat : Nat)) := by rw [cell_of_row W4 _ _ _ _ _ hbx4]; rfl
        have y1' : W4.cell? ⟨wr.heap.size, 1, none⟩ = some (.int .u8 (z1.toNat : Nat)) := by rw [cell_of_row W4 _ _ _ _ _ hbx4]; rfl
        have y2' : W4.cell? ⟨wr.heap.size, 2, none⟩ = some (.int .u8 (z2.toNat : Nat)) := by rw [cell_of_row W4 _ _ _ _ _ hbx4]; rfl
        have y3' : W4.cell? ⟨wr.heap.size, 3, none⟩ = some (.int .u8 (z3.toNat : Nat)) := by rw [cell_of_row W4 _ _ _ _ _ hbx4]; rfl
        have HRW : Hid (W4.heap[w.heap.size + 1]? = some (.cells (prevs l (k + 1) ++ List.replicate (n - (k + 1)) (Value.int .i32 0)).toArray 21 (0, 0))) := Lib.hid (by
          have h := heap_set HR3.out k (.int .i32 cc)
          rw [hW4, List.set_set, prevs_set l n k hkl cc (by rw [HFO.out]; exact HCE.out)] at h
          exact h)
        have HLW : Hid (LastAt W4 w.heap.size l k) := Lib.hid (HL3.out.keep (by rw [← hW4, heap_setCell_other _ _ _ _ (by simp)]))
        have HBW : Hid (Below w.heap.size w W4) := Lib.hid (by rw [← hW4]; exact Below.setCell (p := ⟨w.heap.size + 1, k, none⟩) HB3.out (by simp) _)
        have HW4 := Lib.hid hW4
        clear hW4 hbx3 hbx4 hs hg4 hmb
        go_upto_region 11 with fail
        rw [HW4.out]
        obtain ⟨w5, hmu, hl5, ht5⟩ := HLW.out.put (by omega)
        rw [HFO.out] at hmu
        simp only [keyOf4, fourV] at hmu
        have hg5 := ht5.grown
        have HRW5 : Hid (w5.heap[w.heap.size + 1]? = some (.cells (prevs l (k + 1) ++ List.replicate (n - (k + 1)) (Value.int .i32 0)).toArray 21 (0, 0))) := Lib.hid ((hg5.block _ (Array.getElem?_eq_some_iff.1 HRW.out).1 (by simp)).trans HRW.out)
        have HB5 : Hid (Below w.heap.size w w5) := Lib.hid (below_grown HBW.out hg5 HBW.out.size (fun g e => by injection e with e; omega))
        have HL5 := Lib.hid hl5
        clear hl5 ht5 hg5
        go_wp2_with fail
        exact ⟨⟨k + 1, by omega, by go_num, HRW5, HL5, HB5⟩, by simp [intOf]; omega⟩
      | false =>
        rw [hs] at hlk
        have HLS : Hid (-1 = lastAt l (four l k) k) := Lib.hid (by
          have h1 : ¬ 0 ≤ lastAt l (z0, z1, z2, z3) k := by simpa [seen] using hs
          rw [HFO.out]
          rcases lastAt_bounds l (z0, z1, z2, z3) k with h | h <;> omega)
        have HRW : Hid (W3.heap[w.heap.size + 1]? = some (.cells (prevs l (k + 1) ++ List.replicate (n - (k + 1)) (Value.int .i32 0)).toArray 21 (0, 0))) := Lib.hid (by
          rw [← prevs_set l n k hkl (-1) HLS.out]; exact HR3.out)
        have HLW := HL3
        have HBW := HB3
        clear hbx3 hs hg4 hmb
        obtain ⟨w5, hmu, hl5, ht5⟩ := HLW.out.put (by omega)
        rw [HFO.out] at hmu
        simp only [keyOf4, fourV] at hmu
        have hg5 := ht5.grown
        have HRW5 : Hid (w5.heap[w.heap.size + 1]? = some (.cells (prevs l (k + 1) ++ List.replicate (n - (k + 1)) (Value.int .i32 0)).toArray 21 (0, 0))) := Lib.hid ((hg5.block _ (Array.getElem?_eq_some_iff.1 HRW.out).1 (by simp)).trans HRW.out)
        have HB5 : Hid (Below w.heap.size w w5) := Lib.hid (below_grown HBW.out hg5 HBW.out.size (fun g e => by injection e with e; omega))
        have HL5 := Lib.hid hl5
        clear hl5 ht5 hg5
        go_wp2_with fail
        exact ⟨⟨k + 1, by omega, by go_num, HRW5, HL5, HB5⟩, by simp [intOf]; omega⟩
    · obtain rfl : k = n := by omega
      rw [Nat.sub_self, List.replicate_zero, List.append_nil] at HR
      clear HROW HB1
      go_wp2_with fail
      go_ret
      exact ⟨rfl, HR.out, HB.out⟩
end Go.Proofs.Ytkckjjchfccdjaa
