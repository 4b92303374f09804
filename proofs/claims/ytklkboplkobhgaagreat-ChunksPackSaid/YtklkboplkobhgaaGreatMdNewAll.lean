/- Several texts in one: MdNew, MdNew2. -/
import Derived.Test.YtklkboplkobhgaaGreatMdSym
import Derived.Test.YtklkboplkobhgaaGreatCoAll
/- The model's New, State, Repeats, permitted. -/
namespace Go.Proofs.YtklkboplkobhgaaGreat
set_option maxRecDepth 100000
open Go.RowKit

set_option maxRecDepth 100000 in
set_option maxHeartbeats 1000000 in
theorem repeats_any {C L lc lp pb st : Nat} {r : R4} {P : Nat → Nat} {w : World} (hM : ModAt w C L lc lp pb st r P) : Calls Tryz.prog 35 #[PF C] w (Tells r.val w) := by
  obtain ⟨_, _, _, _, c4, c5, c6, c7⟩ := hM.cells
  have hlt := hM.clt
  clear hM
  go_enter Tryz.func35, Tryz.ntmps35
  go_wp2_with fail
  refine bodyPost_ret (v := r.val) (by simp [results, Tryz.results35, go_sem]) rfl ⟨rfl, ?_⟩
  exact (Below.refl _ _).alloc (Nat.le_refl _) _
def permB (lc lp pb : Int) : Bool := decide ((0 ≤ lc ∧ lc ≤ 4) ∧ (0 ≤ lp ∧ lp ≤ 4) ∧ (0 ≤ pb ∧ pb ≤ 4) ∧ lc + lp ≤ 4)
def smallB (n : Int) : Bool := decide (0 ≤ n ∧ n ≤ 4)
theorem small_any (n : Int) (w : World) : Calls Tryz.prog 39 #[.int .i64 n] w fun e w' => e = .returned (.bool (smallB n)) ∧ w = w' := by
  by_cases h0 : 0 ≤ n
  · have HS : Hid (smallB n = decide (n ≤ 4)) := Lib.hid (by unfold smallB; exact decide_eq_decide.2 (by omega))
    rw [HS.out]
    go_enter Tryz.func39, Tryz.ntmps39
    go_wp2_with fail
    go_ret
    exact ⟨rfl, rfl⟩
  · have HS : Hid (smallB n = false) := Lib.hid (by unfold smallB; exact decide_eq_false (by omega))
    rw [HS.out]
    go_enter Tryz.func39, Tryz.ntmps39
    go_wp2_with fail
    go_ret
    exact ⟨rfl, rfl⟩
set_option maxRecDepth 100000 in
set_option maxHeartbeats 1000000 in
theorem permitted_any (lc lp pb : Int) (w : World) : Calls Tryz.prog 28 #[.int .i64 lc, .int .i64 lp, .int .i64 pb] w fun e w' => e = .returned (.bool (permB lc lp pb)) ∧ w = w' := by
  have HS1 := Lib.hid (small_any lc w)
  have HS2 := Lib.hid (small_any lp w)
  have HS3 := Lib.hid (small_any pb w)
  obtain ⟨R, hR⟩ : ∃ R, permB lc lp pb = R := ⟨_, rfl⟩
  rw [hR]
  have HR := Lib.hid hR
  clear hR
  by_cases h1 : 0 ≤ lc ∧ lc ≤ 4
  case neg =>
    have e1 : smallB lc = false := decide_eq_false h1
    rw [e1] at HS1
    have HRv : Hid (R = false) := Lib.hid (by rw [← HR.out]; exact decide_eq_false (by omega))
    clear h1 e1
    go_enter Tryz.func28, Tryz.ntmps28
    go_wp2_with fail
    refine HS1.out.mono ?_
    rintro e w1 ⟨rfl, rfl⟩
    go_wp2_with fail
    go_ret
    exact ⟨by rw [HRv.out]; rfl, rfl⟩
  case pos =>
    have e1 : smallB lc = true := decide_eq_true h1
    rw [e1] at HS1
    by_cases h2 : 0 ≤ lp ∧ lp ≤ 4
    case neg =>
      have e2 : smallB lp = false := decide_eq_false h2
      rw [e2] at HS2
      have HRv : Hid (R = false) := Lib.hid (by rw [← HR.out]; exact decide_eq_false (by omega))
      clear h1 e1 h2 e2
      go_enter Tryz.func28, Tryz.ntmps28
      go_wp2_with fail
      refine HS1.out.mono ?_
      rintro e w1 ⟨rfl, rfl⟩
      go_wp2_with fail
      refine HS2.out.mono ?_
      rintro e w1 ⟨rfl, rfl⟩
      go_wp2_with fail
      go_ret
      exact ⟨by rw [HRv.out]; rfl, rfl⟩
    case pos =>
      have e2 : smallB lp = true := decide_eq_true h2
      rw [e2] at HS2
      by_cases h3 : 0 ≤ pb ∧ pb ≤ 4
      case neg =>
        have e3 : smallB pb = false := decide_eq_false h3
        rw [e3] at HS3
        have HRv : Hid (R = false) := Lib.hid (by rw [← HR.out]; exact decide_eq_false (by omega))
        clear h1 e1 h2 e2 h3 e3
        go_enter Tryz.func28, Tryz.ntmps28
        go_wp2_with fail
        refine HS1.out.mono ?_
        rintro e w1 ⟨rfl, rfl⟩
        go_wp2_with fail
        refine HS2.out.mono ?_
        rintro e w1 ⟨rfl, rfl⟩
        go_wp2_with fail
        refine HS3.out.mono ?_
        rintro e w1 ⟨rfl, rfl⟩
        go_wp2_with fail
        go_ret
        exact ⟨by rw [HRv.out]; rfl, rfl⟩
      case pos =>
        have e3 : smallB pb = true := decide_eq_true h3
        rw [e3] at HS3
        have HRv : Hid (R = decide (lc + lp ≤ 4)) := Lib.hid (by rw [← HR.out]; exact decide_eq_decide.2 (by omega))
        obtain ⟨h1a, h1b⟩ := h1
        obtain ⟨h2a, h2b⟩ := h2
        clear e1 e2 h3 e3
        go_enter Tryz.func28, Tryz.ntmps28
        go_wp2_with fail
        refine HS1.out.mono ?_
        rintro e w1 ⟨rfl, rfl⟩
        go_wp2_with fail
        refine HS2.out.mono ?_
        rintro e w1 ⟨rfl, rfl⟩
        go_wp2_with fail
        refine HS3.out.mono ?_
        rintro e w1 ⟨rfl, rfl⟩
        go_wp2_with fail
        go_ret
        exact ⟨by rw [HRv.out]; rfl, rfl⟩
def mdTail (v : Value) : List Value := List.replicate 432 (.int .u16 0) ++ (v :: List.replicate 1620 (.int .u16 0))
theorem cells_coder (a b c : Int) : (((((((Tryz.zeroCells83.setIfInBounds 0 (Value.int .i64 a)).setIfInBounds 1 (Value.int .i64 b)).setIfInBounds 2 (Value.int .i64 c)).setIfInBounds 4 (Value.int .i64 1)).setIfInBounds 5 (Value.int .i64 1)).setIfInBounds 6 (Value.int .i64 1)).setIfInBounds 7 (Value.int .i64 1)) =
    ([Value.int .i64 a, .int .i64 b, .int .i64 c, .int .i64 0, .int .i64 1, .int .i64 1, .int .i64 1, .int .i64 1] ++ mdTail (.slice none 0 0)).toArray := by
  kernel_rfl
end Go.Proofs.YtklkboplkobhgaaGreat

/- The model's New, whole. -/
namespace Go.Proofs.YtklkboplkobhgaaGreat
set_option maxRecDepth 100000
open Go.RowKit

theorem heap_of_full2 {w : World} {base n size : Nat} {t : TypeId} {g : Nat} {xs : List Value} (h : w.ownsRow base t size (.slice (some ⟨g, 0, none⟩) n n) n xs) : w.heap[g]? = some (.cells xs.toArray t (0, 0)) ∧ base ≤ g := by
  obtain ⟨hl, ⟨h, _⟩ | ⟨g', cap, cur, e, hb, hg, _, _, hsz, ht⟩⟩ := h
  · cases h
  · injection e with e1 _ e3
    injection e1 with e1
    injection e1 with e1
    subst e1; subst e3
    have : cur.toList = xs := by rw [← ht, List.take_of_length_le (by simp; omega)]
    exact ⟨by rw [hg, ← this], hb⟩
theorem info768 : (Tryz.prog.info? 154).map (fun i => (i.zero, i.size, i.bytes)) = some (some (.agg (Array.replicate 768 (.int .u16 0))), 768, 1536) := by kernel_rfl
theorem made768 (k : Nat) : (madeCells (Value.agg (Array.replicate 768 (.int .u16 0))).cells k).toList = List.replicate k (Value.int .u16 0) := by
  have hz : (Value.agg (Array.replicate 768 (Value.int .u16 0))).cells = Array.replicate 768 (Value.int .u16 0) := rfl
  rw [hz]
  unfold madeCells
  refine List.ext_getElem (by simp) fun i h1 h2 => ?_
  have hi : i % 768 < 768 := Nat.mod_lt _ (by decide)
  simp [hi]
theorem mdTail_get (v : Value) {j : Nat} (hj : j < 2053) (hne : j ≠ 432) : (mdTail v)[j]? = some (.int .u16 0) := by
  unfold mdTail
  by_cases h : j < 432
  · rw [List.getElem?_append_left (by rw [List.length_replicate]; exact h), List.getElem?_replicate, if_pos h]
  · obtain ⟨k, rfl⟩ : ∃ k, j = 432 + 1 + k := ⟨j - 433, by omega⟩
    rw [List.getElem?_append_right (by rw [List.length_replicate]; omega), List.length_replicate, show 432 + 1 + k - 432 = k + 1 by omega, List.getElem?_cons_succ, List.getElem?_replicate, if_pos (by omega)]
theorem mdTail_set (v u : Value) : (mdTail v).set 432 u = mdTail u := by
  unfold mdTail
  rw [List.set_append_right _ _ (by rw [List.length_replicate]; exact Nat.le_refl _), List.length_replicate]; rfl
theorem mdTail_length (v : Value) : (mdTail v).length = 2053 := by unfold mdTail; rw [List.length_append, List.length_cons, List.length_replicate, List.length_replicate]
def NewBad (w : World) (e : Ending) (w' : World) : Prop := e = .returned (.tuple #[.pointer none, .int .i64 1]) ∧ w' = w
def NewGood (lc lp pb : Nat) (w : World) (e : Ending) (w' : World) : Prop := ∃ C L, e = .returned (.tuple #[PF C, .int .i64 0]) ∧ ModAt w' C L lc lp pb 0 (1, 1, 1, 1) (fun _ => 1024) ∧ Below w.heap.size w w' ∧ w.heap.size ≤ C ∧ w.heap.size ≤ L
theorem mnew_bad (lc lp pb : Int) (w : World) (h : permB lc lp pb = false) : Calls Tryz.prog 15 #[.int .i64 lc, .int .i64 lp, .int .i64 pb] w (NewBad w) := by
  have HP := Lib.hid (permitted_any lc lp pb w)
  rw [h] at HP
  go_enter Tryz.func15, Tryz.ntmps15
  go_wp2_with fail
  refine HP.out.mono ?_
  rintro e w1 ⟨rfl, rfl⟩
  go_wp2_with fail
  go_ret2
  exact ⟨rfl, rfl⟩
set_option maxRecDepth 100000 in
set_option maxHeartbeats 1000000 in
theorem mnew_good (lc lp pb : Nat) (w : World) (h1 : lc ≤ 4) (h2 : lp ≤ 4) (h3 : pb ≤ 4) (h4 : lc + lp ≤ 4) : Calls Tryz.prog 15 #[.int .i64 (lc : Nat), .int .i64 (lp : Nat), .int .i64 (pb : Nat)] w (NewGood lc lp pb w) := by
  have HP := Lib.hid (permitted_any (lc : Nat) (lp : Nat) (pb : Nat) w)
  rw [show permB (lc : Nat) (lp : Nat) (pb : Nat) = true from decide_eq_true (by omega)] at HP
  have hbuild := cells_coder (lc : Nat) (lp : Nat) (pb : Nat)
  obtain ⟨cs, hcs⟩ : ∃ cs, ([Value.int .i64 (lc : Nat), .int .i64 (lp : Nat), .int .i64 (pb : Nat), .int .i64 0, .int .i64 1, .int .i64 1, .int .i64 1, .int .i64 1] ++ mdTail (.slice none 0 0)).toArray = cs := ⟨_, rfl⟩
  rw [hcs] at hbuild
  have HCS := Lib.hid hcs
  have HBU := Lib.hid hbuild
  clear hcs hbuild
  obtain ⟨N, hN⟩ : ∃ N, 2 ^ (lc + lp) = N := ⟨_, rfl⟩
  have hN16 : N ≤ 16 := by
    rw [← hN]
    exact Nat.pow_le_pow_right (by decide : 0 < 2) h4
  have hsh : wrap64 (2 ^ (lc + lp)) = (N : Int) := by
    rw [show (2 : Int) ^ (lc + lp) = ((2 ^ (lc + lp) : Nat) : Int) by simp, hN]
    unfold wrap64; omega
  obtain ⟨i, hi, hz⟩ := Option.map_eq_some_iff.1 info768
  injection hz with hz0 hz; injection hz with hz1 hz2
  have hmk : i.bytes * N ≤ 281474976710656 := by rw [hz2]; omega
  have hml : N ≤ maxLen := by unfold maxLen; omega
  have HN := Lib.hid hN
  have hlci : (lc : Int) ≤ 4 := by omega
  have hlpi : (lp : Int) ≤ 4 := by omega
  clear hN h4
  go_enter Tryz.func15, Tryz.ntmps15
  go_wp2_with fail
  refine HP.out.mono ?_
  rintro e w1 ⟨rfl, rfl⟩
  go_upto_region 4 with fail
  rw [HBU.out]
  obtain ⟨W1, hW1⟩ : ∃ W1, w.alloc (.cells cs 83) = W1 := ⟨_, rfl⟩
  have hbx : W1.heap[w.heap.size]? = some (.cells cs 83 (0, 0)) := by rw [← hW1]; exact heap_alloc_last w _
  have hsz : W1.heap.size = w.heap.size + 1 := by rw [← hW1]; simp
  have HW1 := Lib.hid hW1
  have HBX := Lib.hid hbx
  have HSZ := Lib.hid hsz
  have HB1 : Hid (Below w.heap.size w W1) := Lib.hid (by rw [← hW1]; exact (Below.refl _ _).alloc (Nat.le_refl _) _)
  rw [HW1.out]
  clear hW1 hbx hsz
  go_wp2_with (at_make; refine wpList_make_full W1 rfl (.tmp 24) (.tmp 24) 69 rfl W1.heap.size 154 i (.agg (Array.replicate 768 (.int .u16 0))) 768 Tryz.underlying69 hi hz0 hz1 .i64 .i64 _ _ N rfl rfl hsh hsh hmk hml (Nat.le_refl _) ?_; intro w2 hown hg2; rw [made768] at hown; obtain ⟨hh2, hge⟩ := heap_of_full2 hown; have hb2 := (hg2.block w.heap.size (by rw [HSZ.out]; omega) (by simp)).trans HBX.out; have c440 : w2.cell? ⟨w.heap.size, 440, none⟩ = some (.slice none 0 0) := (by rw [cell_of_row w2 _ _ _ _ _ hb2, ← HCS.out]; simp [mdTail]); have f440 : w2.frozen? ⟨w.heap.size, 440, none⟩ = false := frozen_of_row _ _ _ _ _ hb2; have HH2 := Lib.hid hh2; have HB2 := Lib.hid hb2; have HG2 := Lib.hid hg2; clear hown hh2 hge hb2 hg2)
  go_ret2
  have hsz := HSZ.out
  have hne : w.heap.size ≠ W1.heap.size := by omega
  have hrow : (w2.setCell ⟨w.heap.size, 440, none⟩ (.slice (some ⟨W1.heap.size, 0, none⟩) (N : Nat) (N : Nat))).heap[w.heap.size]? = some (.cells (mdHead lc lp pb 0 (1, 1, 1, 1) ++ mdTail (.slice (some ⟨W1.heap.size, 0, none⟩) N N)).toArray 83 (0, 0)) := by
    have h := HB2.out
    rw [← HCS.out] at h
    rw [heap_set h, List.set_append_right _ _ (by simp)]
    rw [show 440 - ([Value.int .i64 (lc : Nat), .int .i64 (lp : Nat), .int .i64 (pb : Nat), .int .i64 0, .int .i64 1, .int .i64 1, .int .i64 1, .int .i64 1] : List Value).length = 432 from rfl, mdTail_set]
    rfl
  have hlit : (w2.setCell ⟨w.heap.size, 440, none⟩ (.slice (some ⟨W1.heap.size, 0, none⟩) (N : Nat) (N : Nat))).heap[W1.heap.size]? = some (.cells (List.replicate (N * 768) (Value.int .u16 0)).toArray 154 (0, 0)) := (heap_setCell_other _ _ _ _ (fun e => hne e.symm)).trans HH2.out
  refine ⟨w.heap.size, W1.heap.size, rfl, ⟨⟨_, hrow, mdTail_length _⟩, ⟨_, hlit, by simp; rw [← HN.out]; omega⟩, ?_, hne, fun i hi => ⟨0, ?_, rfl⟩, fun i => by decide⟩, ?_, Nat.le_refl _, by omega⟩
  · rw [HN.out]; exact World.cell?_setCell_same _ _ _ c440
  · rw [HN.out] at hi
    unfold Md.used at hi
    by_cases h3 : i < 2180
    · have ha : Md.adr w.heap.size W1.heap.size i = ⟨w.heap.size, Md.offOf i, none⟩ := by unfold Md.adr Md.blkOf; rw [if_pos h3]
      have hk : 8 ≤ Md.offOf i ∧ Md.offOf i - 8 < 2053 ∧ Md.offOf i - 8 ≠ 432 := by
        unfold Md.offOf
        by_cases a1 : i < 432 <;> by_cases a2 : i < 1844 <;> simp only [a1, a2, h3, if_true, if_false] <;> omega
      rw [ha, cell_of_row _ _ _ _ _ _ hrow, List.getElem?_toArray, List.getElem?_append_right (by simpa using hk.1)]
      exact mdTail_get _ hk.2.1 hk.2.2
    · have ha : Md.adr w.heap.size W1.heap.size i = ⟨W1.heap.size, i - 2180, none⟩ := by
        unfold Md.adr Md.blkOf Md.offOf
        rw [if_neg h3, if_neg (by omega), if_neg (by omega), if_neg h3]
      rw [ha, cell_of_row _ _ _ _ _ _ hlit, List.getElem?_toArray, List.getElem?_replicate, if_pos (by omega)]; rfl
  · exact (below_grown HB1.out HG2.out HB1.out.size (by simp)).setCell (Nat.le_refl _) _
end Go.Proofs.YtklkboplkobhgaaGreat
