/- Several texts in one: MdNew, MdNew2, ChkFine, ChkOpen. -/
import Derived.Test.YtkckjjchfccdjaaMdSym
import Derived.Test.YtkckjjchfccdjaaMg11
import Derived.Test.YtkckjjchfccdjaaMg5
import Derived.Test.YtkckjjchfccdjaaMg1
import Derived.Deep.Slices
import Derived.Deep.Fields
import Derived.ChangeSame
import Derived.Lib.SmallJoins
/- The model's New, State, Repeats, permitted. -/
namespace Go.Proofs.Ytkckjjchfccdjaa
set_option maxRecDepth 100000
open Go.RowKit

set_option maxRecDepth 100000 in
set_option maxHeartbeats 1000000 in
theorem repeats_any {C L lc lp pb st : Nat} {r : R4} {P : Nat → Nat} {w : World} (hM : ModAt w C L lc lp pb st r P) : Calls Try.prog 47 #[PF C] w (Tells r.val w) := by
  obtain ⟨_, _, _, _, c4, c5, c6, c7⟩ := hM.cells
  have hlt := hM.clt
  clear hM
  go_enter Try.func47, Try.ntmps47
  go_wp2_with fail
  refine bodyPost_ret (v := r.val) (by simp [results, Try.results47, go_sem]) rfl ⟨rfl, ?_⟩
  exact (Below.refl _ _).alloc (Nat.le_refl _) _
def permB (lc lp pb : Int) : Bool := decide ((0 ≤ lc ∧ lc ≤ 4) ∧ (0 ≤ lp ∧ lp ≤ 4) ∧ (0 ≤ pb ∧ pb ≤ 4) ∧ lc + lp ≤ 4)
def smallB (n : Int) : Bool := decide (0 ≤ n ∧ n ≤ 4)
theorem small_any (n : Int) (w : World) : Calls Try.prog 63 #[.int .i64 n] w fun e w' => e = .returned (.bool (smallB n)) ∧ w = w' := by
  by_cases h0 : 0 ≤ n
  · have HS : Hid (smallB n = decide (n ≤ 4)) := Lib.hid (by unfold smallB; exact decide_eq_decide.2 (by omega))
    rw [HS.out]
    go_enter Try.func63, Try.ntmps63
    go_wp2_with fail
    go_ret
    exact ⟨rfl, rfl⟩
  · have HS : Hid (smallB n = false) := Lib.hid (by unfold smallB; exact decide_eq_false (by omega))
    rw [HS.out]
    go_enter Try.func63, Try.ntmps63
    go_wp2_with fail
    go_ret
    exact ⟨rfl, rfl⟩
set_option maxRecDepth 100000 in
set_option maxHeartbeats 1000000 in
theorem permitted_any (lc lp pb : Int) (w : World) : Calls Try.prog 45 #[.int .i64 lc, .int .i64 lp, .int .i64 pb] w fun e w' => e = .returned (.bool (permB lc lp pb)) ∧ w = w' := by
  have HS1 := Lib.hid (small_any lc w)
  have HS2 := Lib.hid (small_any lp w)
  have HS3 := Lib.hid (small_any pb w)
  obtain ⟨R, hR⟩ : ∃ R, permB lc lp pb = R := ⟨_, rfl⟩
  rw [hR]
  have HR := Lib.hid hR
  clear hR
  by_cases h1 : 0 ≤ lc ∧ lc ≤ 4
  case neg =>
    have e1 : smallB lc = false := decide_eq_false h1
    rw [e1] at HS1
    have HRv : Hid (R = false) := Lib.hid (by rw [← HR.out]; exact decide_eq_false (by omega))
    clear h1 e1
    go_enter Try.func45, Try.ntmps45
    go_wp2_with fail
    refine HS1.out.mono ?_
    rintro e w1 ⟨rfl, rfl⟩
    go_wp2_with fail
    go_ret
    exact ⟨by rw [HRv.out]; rfl, rfl⟩
  case pos =>
    have e1 : smallB lc = true := decide_eq_true h1
    rw [e1] at HS1
    by_cases h2 : 0 ≤ lp ∧ lp ≤ 4
    case neg =>
      have e2 : smallB lp = false := decide_eq_false h2
      rw [e2] at HS2
      have HRv : Hid (R = false) := Lib.hid (by rw [← HR.out]; exact decide_eq_false (by omega))
      clear h1 e1 h2 e2
      go_enter Try.func45, Try.ntmps45
      go_wp2_with fail
      refine HS1.out.mono ?_
      rintro e w1 ⟨rfl, rfl⟩
      go_wp2_with fail
      refine HS2.out.mono ?_
      rintro e w1 ⟨rfl, rfl⟩
      go_wp2_with fail
      go_ret
      exact ⟨by rw [HRv.out]; rfl, rfl⟩
    case pos =>
      have e2 : smallB lp = true := decide_eq_true h2
      rw [e2] at HS2
      by_cases h3 : 0 ≤ pb ∧ pb ≤ 4
      case neg =>
        have e3 : smallB pb = false := decide_eq_false h3
        rw [e3] at HS3
        have HRv : Hid (R = false) := Lib.hid (by rw [← HR.out]; exact decide_eq_false (by omega))
        clear h1 e1 h2 e2 h3 e3
        go_enter Try.func45, Try.ntmps45
        go_wp2_with fail
        refine HS1.out.mono ?_
        rintro e w1 ⟨rfl, rfl⟩
        go_wp2_with fail
        refine HS2.out.mono ?_
        rintro e w1 ⟨rfl, rfl⟩
        go_wp2_with fail
        refine HS3.out.mono ?_
        rintro e w1 ⟨rfl, rfl⟩
        go_wp2_with fail
        go_ret
        exact ⟨by rw [HRv.out]; rfl, rfl⟩
      case pos =>
        have e3 : smallB pb = true := decide_eq_true h3
        rw [e3] at HS3
        have HRv : Hid (R = decide (lc + lp ≤ 4)) := Lib.hid (by rw [← HR.out]; exact decide_eq_decide.2 (by omega))
        obtain ⟨h1a, h1b⟩ := h1
        obtain ⟨h2a, h2b⟩ := h2
        clear e1 e2 h3 e3
        go_enter Try.func45, Try.ntmps45
        go_wp2_with fail
        refine HS1.out.mono ?_
        rintro e w1 ⟨rfl, rfl⟩
        go_wp2_with fail
        refine HS2.out.mono ?_
        rintro e w1 ⟨rfl, rfl⟩
        go_wp2_with fail
        refine HS3.out.mono ?_
        rintro e w1 ⟨rfl, rfl⟩
        go_wp2_with fail
        go_ret
        exact ⟨by rw [HRv.out]; rfl, rfl⟩
def mdTail (v : Value) : List Value := List.replicate 432 (.int .u16 0) ++ (v :: List.replicate 1620 (.int .u16 0))
theorem cells_coder (a b c : Int) : (((((((Try.zeroCells121.setIfInBounds 0 (Value.int .i64 a)).setIfInBounds 1 (Value.int .i64 b)).setIfInBounds 2 (Value.int .i64 c)).setIfInBounds 4 (Value.int .i64 1)).setIfInBounds 5 (Value.int .i64 1)).setIfInBounds 6 (Value.int .i64 1)).setIfInBounds 7 (Value.int .i64 1)) =
    ([Value.int .i64 a, .int .i64 b, .int .i64 c, .int .i64 0, .int .i64 1, .int .i64 1, .int .i64 1, .int .i64 1] ++ mdTail (.slice none 0 0)).toArray := by
  kernel_rfl
end Go.Proofs.Ytkckjjchfccdjaa

/- The model's New, whole. -/
namespace Go.Proofs.Ytkckjjchfccdjaa
set_option maxRecDepth 100000
open Go.RowKit

theorem heap_of_full2 {w : World} {base n size : Nat} {t : TypeId} {g : Nat} {xs : List Value} (h : w.ownsRow base t size (.slice (some ⟨g, 0, none⟩) n n) n xs) : w.heap[g]? = some (.cells xs.toArray t (0, 0)) ∧ base ≤ g := by
  obtain ⟨hl, ⟨h, _⟩ | ⟨g', cap, cur, e, hb, hg, _, _, hsz, ht⟩⟩ := h
  · cases h
  · injection e with e1 _ e3
    injection e1 with e1
    injection e1 with e1
    subst e1; subst e3
    have : cur.toList = xs := by rw [← ht, List.take_of_length_le (by simp; omega)]
    exact ⟨by rw [hg, ← this], hb⟩
theorem info768 : (Try.prog.info? 171).map (fun i => (i.zero, i.size, i.bytes)) = some (some (.agg (Array.replicate 768 (.int .u16 0))), 768, 1536) := by kernel_rfl
theorem made768 (k : Nat) : (madeCells (Value.agg (Array.replicate 768 (.int .u16 0))).cells k).toList = List.replicate k (Value.int .u16 0) := by
  have hz : (Value.agg (Array.replicate 768 (Value.int .u16 0))).cells = Array.replicate 768 (Value.int .u16 0) := rfl
  rw [hz]
  unfold madeCells
  refine List.ext_getElem (by simp) fun i h1 h2 => ?_
  have hi : i % 768 < 768 := Nat.mod_lt _ (by decide)
  simp [hi]
theorem mdTail_get (v : Value) {j : Nat} (hj : j < 2053) (hne : j ≠ 432) : (mdTail v)[j]? = some (.int .u16 0) := by
  unfold mdTail
  by_cases h : j < 432
  · rw [List.getElem?_append_left (by rw [List.length_replicate]; exact h), List.getElem?_replicate, if_pos h]
  · obtain ⟨k, rfl⟩ : ∃ k, j = 432 + 1 + k := ⟨j - 433, by omega⟩
    rw [List.getElem?_append_right (by rw [List.length_replicate]; omega), List.length_replicate, show 432 + 1 + k - 432 = k + 1 by omega, List.getElem?_cons_succ, List.getElem?_replicate, if_pos (by omega)]
theorem mdTail_set (v u : Value) : (mdTail v).set 432 u = mdTail u := by
  unfold mdTail
  rw [List.set_append_right _ _ (by rw [List.length_replicate]; exact Nat.le_refl _), List.length_replicate]; rfl
theorem mdTail_length (v : Value) : (mdTail v).length = 2053 := by unfold mdTail; rw [List.length_append, List.length_cons, List.length_replicate, List.length_replicate]
def NewBad (w : World) (e : Ending) (w' : World) : Prop := e = .returned (.tuple #[.pointer none, .int .i64 1]) ∧ w' = w
def NewGood (lc lp pb : Nat) (w : World) (e : Ending) (w' : World) : Prop := ∃ C L, e = .returned (.tuple #[PF C, .int .i64 0]) ∧ ModAt w' C L lc lp pb 0 (1, 1, 1, 1) (fun _ => 1024) ∧ Below w.heap.size w w' ∧ w.heap.size ≤ C ∧ w.heap.size ≤ L
theorem mnew_bad (lc lp pb : Int) (w : World) (h : permB lc lp pb = false) : Calls Try.prog 28 #[.int .i64 lc, .int .i64 lp, .int .i64 pb] w (NewBad w) := by
  have HP := Lib.hid (permitted_any lc lp pb w)
  rw [h] at HP
  go_enter Try.func28, Try.ntmps28
  go_wp2_with fail
  refine HP.out.mono ?_
  rintro e w1 ⟨rfl, rfl⟩
  go_wp2_with fail
  go_ret2
  exact ⟨rfl, rfl⟩
set_option maxRecDepth 100000 in
set_option maxHeartbeats 1000000 in
theorem mnew_good (lc lp pb : Nat) (w : World) (h1 : lc ≤ 4) (h2 : lp ≤ 4) (h3 : pb ≤ 4) (h4 : lc + lp ≤ 4) : Calls Try.prog 28 #[.int .i64 (lc : Nat), .int .i64 (lp : Nat), .int .i64 (pb : Nat)] w (NewGood lc lp pb w) := by
  have HP := Lib.hid (permitted_any (lc : Nat) (lp : Nat) (pb : Nat) w)
  rw [show permB (lc : Nat) (lp : Nat) (pb : Nat) = true from decide_eq_true (by omega)] at HP
  have hbuild := cells_coder (lc : Nat) (lp : Nat) (pb : Nat)
  obtain ⟨cs, hcs⟩ : ∃ cs, ([Value.int .i64 (lc : Nat), .int .i64 (lp : Nat), .int .i64 (pb : Nat), .int .i64 0, .int .i64 1, .int .i64 1, .int .i64 1, .int .i64 1] ++ mdTail (.slice none 0 0)).toArray = cs := ⟨_, rfl⟩
  rw [hcs] at hbuild
  have HCS := Lib.hid hcs
  have HBU := Lib.hid hbuild
  clear hcs hbuild
  obtain ⟨N, hN⟩ : ∃ N, 2 ^ (lc + lp) = N := ⟨_, rfl⟩
  have hN16 : N ≤ 16 := by
    rw [← hN]
    exact Nat.pow_le_pow_right (by decide : 0 < 2) h4
  have hsh : wrap64 (2 ^ (lc + lp)) = (N : Int) := by
    rw [show (2 : Int) ^ (lc + lp) = ((2 ^ (lc + lp) : Nat) : Int) by simp, hN]
    unfold wrap64; omega
  obtain ⟨i, hi, hz⟩ := Option.map_eq_some_iff.1 info768
  injection hz with hz0 hz; injection hz with hz1 hz2
  have hmk : i.bytes * N ≤ 281474976710656 := by rw [hz2]; omega
  have hml : N ≤ maxLen := by unfold maxLen; omega
  have HN := Lib.hid hN
  have hlci : (lc : Int) ≤ 4 := by omega
  have hlpi : (lp : Int) ≤ 4 := by omega
  clear hN h4
  go_enter Try.func28, Try.ntmps28
  go_wp2_with fail
  refine HP.out.mono ?_
  rintro e w1 ⟨rfl, rfl⟩
  go_upto_region 4 with fail
  rw [HBU.out]
  obtain ⟨W1, hW1⟩ : ∃ W1, w.alloc (.cells cs 121) = W1 := ⟨_, rfl⟩
  have hbx : W1.heap[w.heap.size]? = some (.cells cs 121 (0, 0)) := by rw [← hW1]; exact heap_alloc_last w _
  have hsz : W1.heap.size = w.heap.size + 1 := by rw [← hW1]; simp
  have HW1 := Lib.hid hW1
  have HBX := Lib.hid hbx
  have HSZ := Lib.hid hsz
  have HB1 : Hid (Below w.heap.size w W1) := Lib.hid (by rw [← hW1]; exact (Below.refl _ _).alloc (Nat.le_refl _) _)
  rw [HW1.out]
  clear hW1 hbx hsz
  go_wp2_with (at_make; refine wpList_make_full W1 rfl (.tmp 24) (.tmp 24) 107 rfl W1.heap.size 171 i (.agg (Array.replicate 768 (.int .u16 0))) 768 Try.underlying107 hi hz0 hz1 .i64 .i64 _ _ N rfl rfl hsh hsh hmk hml (Nat.le_refl _) ?_; intro w2 hown hg2; rw [made768] at hown; obtain ⟨hh2, hge⟩ := heap_of_full2 hown; have hb2 := (hg2.block w.heap.size (by rw [HSZ.out]; omega) (by simp)).trans HBX.out; have c440 : w2.cell? ⟨w.heap.size, 440, none⟩ = some (.slice none 0 0) := (by rw [cell_of_row w2 _ _ _ _ _ hb2, ← HCS.out]; simp [mdTail]); have f440 : w2.frozen? ⟨w.heap.size, 440, none⟩ = false := frozen_of_row _ _ _ _ _ hb2; have HH2 := Lib.hid hh2; have HB2 := Lib.hid hb2; have HG2 := Lib.hid hg2; clear hown hh2 hge hb2 hg2)
  go_ret2
  have hsz := HSZ.out
  have hne : w.heap.size ≠ W1.heap.size := by omega
  have hrow : (w2.setCell ⟨w.heap.size, 440, none⟩ (.slice (some ⟨W1.heap.size, 0, none⟩) (N : Nat) (N : Nat))).heap[w.heap.size]? = some (.cells (mdHead lc lp pb 0 (1, 1, 1, 1) ++ mdTail (.slice (some ⟨W1.heap.size, 0, none⟩) N N)).toArray 121 (0, 0)) := by
    have h := HB2.out
    rw [← HCS.out] at h
    rw [heap_set h, List.set_append_right _ _ (by simp)]
    rw [show 440 - ([Value.int .i64 (lc : Nat), .int .i64 (lp : Nat), .int .i64 (pb : Nat), .int .i64 0, .int .i64 1, .int .i64 1, .int .i64 1, .int .i64 1] : List Value).length = 432 from rfl, mdTail_set]
    rfl
  have hlit : (w2.setCell ⟨w.heap.size, 440, none⟩ (.slice (some ⟨W1.heap.size, 0, none⟩) (N : Nat) (N : Nat))).heap[W1.heap.size]? = some (.cells (List.replicate (N * 768) (Value.int .u16 0)).toArray 171 (0, 0)) := (heap_setCell_other _ _ _ _ (fun e => hne e.symm)).trans HH2.out
  refine ⟨w.heap.size, W1.heap.size, rfl, ⟨⟨_, hrow, mdTail_length _⟩, ⟨_, hlit, by simp; rw [← HN.out]; omega⟩, ?_, hne, fun i hi => ⟨0, ?_, rfl⟩, fun i => by decide⟩, ?_, Nat.le_refl _, by omega⟩
  · rw [HN.out]; exact World.cell?_setCell_same _ _ _ c440
  · rw [HN.out] at hi
    unfold Md.used at hi
    by_cases h3 : i < 2180
    · have ha : Md.adr w.heap.size W1.heap.size i = ⟨w.heap.size, Md.offOf i, none⟩ := by unfold Md.adr Md.blkOf; rw [if_pos h3]
      have hk : 8 ≤ Md.offOf i ∧ Md.offOf i - 8 < 2053 ∧ Md.offOf i - 8 ≠ 432 := by
        unfold Md.offOf
        by_cases a1 : i < 432 <;> by_cases a2 : i < 1844 <;> simp only [a1, a2, h3, if_true, if_false] <;> omega
      rw [ha, cell_of_row _ _ _ _ _ _ hrow, List.getElem?_toArray, List.getElem?_append_right (by simpa using hk.1)]
      exact mdTail_get _ hk.2.1 hk.2.2
    · have ha : Md.adr w.heap.size W1.heap.size i = ⟨W1.heap.size, i - 2180, none⟩ := by
        unfold Md.adr Md.blkOf Md.offOf
        rw [if_neg h3, if_neg (by omega), if_neg (by omega), if_neg h3]
      rw [ha, cell_of_row _ _ _ _ _ _ hlit, List.getElem?_toArray, List.getElem?_replicate, if_pos (by omega)]; rfl
  · exact (below_grown HB1.out HG2.out HB1.out.size (by simp)).setCell (Nat.le_refl _) _
end Go.Proofs.Ytkckjjchfccdjaa

/- Chunks: which options are fine; a number in two bytes; the properties. -/
namespace Go.Proofs.Ytkckjjchfccdjaa
set_option maxRecDepth 100000
open Go.RowKit

/-- Options, as values. -/
structure Opt where
  lc : Int
  lp : Int
  pb : Int
  nice : Int
  chunk : Int
  block : Int
  check : Int
  chain : Value
  dict : Nat
abbrev optRow (lc lp pb nice chunk block check : Int) (chain : Value) (dict : Nat) : List Value := [.int .i64 lc, .int .i64 lp, .int .i64 pb, .int .i64 nice, .int .i64 chunk, .int .i64 block, .int .i64 check, chain, .int .u32 (dict : Nat)]
abbrev OptV (lc lp pb nice chunk block check : Int) (chain : Value) (dict : Nat) : Value := .agg #[.int .i64 lc, .int .i64 lp, .int .i64 pb, .int .i64 nice, .int .i64 chunk, .int .i64 block, .int .i64 check, chain, .int .u32 (dict : Nat)]
def fineB (lc lp pb nice chunk : Int) (dict : Nat) : Bool := permB lc lp pb && decide ((2 ≤ nice ∧ nice ≤ 273) ∧ (1 ≤ chunk ∧ chunk ≤ 65536) ∧ 4096 ≤ dict ∧ dict ≤ 67108864)
def inB (n lo hi : Int) : Bool := decide (lo ≤ n ∧ n ≤ hi)
theorem within_any (n lo hi : Int) (w : World) : Calls Try.prog 27 #[.int .i64 n, .int .i64 lo, .int .i64 hi] w fun e w' => e = .returned (.bool (inB n lo hi)) ∧ w = w' := by
  by_cases h0 : lo ≤ n
  · have HS : Hid (inB n lo hi = decide (n ≤ hi)) := Lib.hid (by unfold inB; exact decide_eq_decide.2 (by omega))
    rw [HS.out]
    go_enter Try.func27, Try.ntmps27
    go_wp2_with fail
    go_ret
    exact ⟨rfl, rfl⟩
  · have HS : Hid (inB n lo hi = false) := Lib.hid (by unfold inB; exact decide_eq_false (by omega))
    rw [HS.out]
    go_enter Try.func27, Try.ntmps27
    go_wp2_with fail
    go_ret
    exact ⟨rfl, rfl⟩
theorem optBox {w W : World} {vs : List Value} {t : TypeId} (h : w.alloc (.cells vs.toArray t) = W) : W.heap[w.heap.size]? = some (.cells vs.toArray t (0, 0)) ∧ Below w.heap.size w W := by
  subst h
  exact ⟨heap_alloc_new w _, (Below.refl _ _).alloc (Nat.le_refl _) _⟩
def BoolDone (b : Bool) (w : World) (e : Ending) (w' : World) : Prop := e = .returned (.bool b) ∧ Below w.heap.size w w'
set_option maxRecDepth 100000 in
set_option maxHeartbeats 2000000 in
theorem fine_any (lc lp pb nice chunk block check : Int) (chain : Value) (dict : Nat) (w : World) :
    Calls Try.prog 16 #[OptV lc lp pb nice chunk block check chain dict] w (BoolDone (fineB lc lp pb nice chunk dict) w) := by
  obtain ⟨R, hR⟩ : ∃ R, fineB lc lp pb nice chunk dict = R := ⟨_, rfl⟩
  rw [hR]
  obtain ⟨W, hW⟩ : ∃ W, w.alloc (.cells #[.int .i64 lc, .int .i64 lp, .int .i64 pb, .int .i64 nice, .int .i64 chunk, .int .i64 block, .int .i64 check, chain, .int .u32 (dict : Nat)] 33) = W := ⟨_, rfl⟩
  obtain ⟨hrow, hbW⟩ := optBox (vs := optRow lc lp pb nice chunk block check chain dict) hW
  have HC : Hid (∀ W', Below W.heap.size W W' → W'.cell? ⟨w.heap.size, 0, none⟩ = some (.int .i64 lc) ∧ W'.cell? ⟨w.heap.size, 1, none⟩ = some (.int .i64 lp) ∧ W'.cell? ⟨w.heap.size, 2, none⟩ = some (.int .i64 pb) ∧ W'.cell? ⟨w.heap.size, 3, none⟩ = some (.int .i64 nice) ∧ W'.cell? ⟨w.heap.size, 4, none⟩ = some (.int .i64 chunk) ∧ W'.cell? ⟨w.heap.size, 8, none⟩ = some (.int .u32 (dict : Nat))) := Lib.hid (fun W' hb => by
    have h := (hb.block _ (Array.getElem?_eq_some_iff.1 hrow).1).trans hrow
    refine ⟨?_, ?_, ?_, ?_, ?_, ?_⟩ <;> (rw [cell_of_row W' _ _ _ _ _ h]; rfl))
  obtain ⟨c0, c1, c2, _, _, _⟩ := HC.out W (Below.refl _ _)
  have HW := Lib.hid hW
  have HBW := Lib.hid hbW
  have HR := Lib.hid hR
  have HN := Lib.hid (within_any nice 2 273)
  have HK := Lib.hid (within_any chunk 1 65536)
  clear hrow hW hbW hR
  cases hp : permB lc lp pb with
  | false =>
    have HM := Lib.hid (mnew_bad lc lp pb W hp)
    have HRv : Hid (R = false) := Lib.hid (by rw [← HR.out]; unfold fineB; rw [hp]; rfl)
    clear hp
    go_enter Try.func16, Try.ntmps16
    go_upto_region 1 with fail
    rw [HW.out]
    go_wp2_with fail
    refine HM.out.mono ?_
    rintro e w1 ⟨rfl, rfl⟩
    go_wp2_with fail
    go_ret
    exact ⟨by rw [HRv.out]; rfl, HBW.out⟩
  | true =>
    have hp' := of_decide_eq_true hp
    obtain ⟨lc, rfl⟩ : ∃ n : Nat, lc = n := ⟨lc.toNat, by omega⟩
    obtain ⟨lp, rfl⟩ : ∃ n : Nat, lp = n := ⟨lp.toNat, by omega⟩
    obtain ⟨pb, rfl⟩ : ∃ n : Nat, pb = n := ⟨pb.toNat, by omega⟩
    have HM := Lib.hid (mnew_good lc lp pb W (by omega) (by omega) (by omega) (by omega))
    have HRv : Hid (R = decide ((2 ≤ nice ∧ nice ≤ 273) ∧ (1 ≤ chunk ∧ chunk ≤ 65536) ∧ 4096 ≤ dict ∧ dict ≤ 67108864)) := Lib.hid (by rw [← HR.out]; unfold fineB; rw [hp]; rfl)
    clear hp hp'
    by_cases h1 : 2 ≤ nice ∧ nice ≤ 273
    case neg =>
      have e1 : inB nice 2 273 = false := decide_eq_false h1
      rw [e1] at HN
      have HRf : Hid (R = false) := Lib.hid (by rw [HRv.out]; exact decide_eq_false (fun h => h1 h.1))
      clear h1 e1
      go_enter Try.func16, Try.ntmps16
      go_upto_region 1 with fail
      rw [HW.out]
      go_wp2_with fail
      refine HM.out.mono ?_
      rintro e w1 ⟨C, L, rfl, _, hb1, _, _⟩
      obtain ⟨_, _, _, d3, d4, d8⟩ := HC.out w1 hb1
      have HB1 := Lib.hid hb1
      clear hb1 c0 c1 c2
      go_wp2_with fail
      refine (HN.out w1).mono ?_
      rintro e w2 ⟨rfl, rfl⟩
      go_wp2_with fail
      go_ret
      exact ⟨by rw [HRf.out]; rfl, HBW.out.trans (HB1.out.mono HBW.out.size)⟩
    case pos =>
      have e1 : inB nice 2 273 = true := decide_eq_true h1
      rw [e1] at HN
      by_cases h2 : 1 ≤ chunk ∧ chunk ≤ 65536
      case neg =>
        have e2 : inB chunk 1 65536 = false := decide_eq_false h2
        rw [e2] at HK
        have HRf : Hid (R = false) := Lib.hid (by rw [HRv.out]; exact decide_eq_false (fun h => h2 h.2.1))
        clear h1 e1 h2 e2
        go_enter Try.func16, Try.ntmps16
        go_upto_region 1 with fail
        rw [HW.out]
        go_wp2_with fail
        refine HM.out.mono ?_
        rintro e w1 ⟨C, L, rfl, _, hb1, _, _⟩
        obtain ⟨_, _, _, d3, d4, d8⟩ := HC.out w1 hb1
        have HB1 := Lib.hid hb1
        clear hb1 c0 c1 c2
        go_wp2_with fail
        refine (HN.out w1).mono ?_
        rintro e w2 ⟨rfl, rfl⟩
        go_wp2_with fail
        refine (HK.out w1).mono ?_
        rintro e w2 ⟨rfl, rfl⟩
        go_wp2_with fail
        go_ret
        exact ⟨by rw [HRf.out]; rfl, HBW.out.trans (HB1.out.mono HBW.out.size)⟩
      case pos =>
        have e2 : inB chunk 1 65536 = true := decide_eq_true h2
        rw [e2] at HK
        have HRw : Hid (R = decide (4096 ≤ dict ∧ dict ≤ 67108864)) := Lib.hid (by rw [HRv.out]; exact decide_eq_decide.2 ⟨fun h => h.2.2, fun h => ⟨h1, h2, h⟩⟩)
        clear h1 e1 h2 e2
        by_cases h3 : 4096 ≤ dict
        case neg =>
          have HRf : Hid (R = false) := Lib.hid (by rw [HRw.out]; exact decide_eq_false (fun h => h3 h.1))
          have e3 : ¬ (4096 : Int) ≤ (dict : Int) := by omega
          go_enter Try.func16, Try.ntmps16
          go_upto_region 1 with fail
          rw [HW.out]
          go_wp2_with fail
          refine HM.out.mono ?_
          rintro e w1 ⟨C, L, rfl, _, hb1, _, _⟩
          obtain ⟨_, _, _, d3, d4, d8⟩ := HC.out w1 hb1
          have HB1 := Lib.hid hb1
          clear hb1 c0 c1 c2
          go_wp2_with fail
          refine (HN.out w1).mono ?_
          rintro e w2 ⟨rfl, rfl⟩
          go_wp2_with fail
          refine (HK.out w1).mono ?_
          rintro e w2 ⟨rfl, rfl⟩
          go_wp2_with fail
          go_ret
          exact ⟨by rw [HRf.out]; rfl, HBW.out.trans (HB1.out.mono HBW.out.size)⟩
        case pos =>
          have e3 : (4096 : Int) ≤ (dict : Int) := by omega
          obtain ⟨q, hq⟩ : ∃ q, decide (dict ≤ 67108864) = q := ⟨_, rfl⟩
          have hq2 : decide ((dict : Int) ≤ 67108864) = q := by rw [← hq]; exact decide_eq_decide.2 (by omega)
          have HRf : Hid (R = q) := Lib.hid (by rw [HRw.out, ← hq]; exact decide_eq_decide.2 (by omega))
          go_enter Try.func16, Try.ntmps16
          go_upto_region 1 with fail
          rw [HW.out]
          go_wp2_with fail
          refine HM.out.mono ?_
          rintro e w1 ⟨C, L, rfl, _, hb1, _, _⟩
          obtain ⟨_, _, _, d3, d4, d8⟩ := HC.out w1 hb1
          have HB1 := Lib.hid hb1
          clear hb1 c0 c1 c2
          go_wp2_with fail
          refine (HN.out w1).mono ?_
          rintro e w2 ⟨rfl, rfl⟩
          go_wp2_with fail
          refine (HK.out w1).mono ?_
          rintro e w2 ⟨rfl, rfl⟩
          go_wp2_with fail
          go_ret
          exact ⟨by rw [HRf.out]; simp, HBW.out.trans (HB1.out.mono HBW.out.size)⟩
/-- A number in two bytes. -/
def twoB (n : Nat) : List UInt8 := [UInt8.ofNat (n / 256), UInt8.ofNat n]
set_option maxHeartbeats 1000000 in
theorem twoBytes_any (n : Nat) (hn : n ≤ 281474976710656) (w : World) : Calls Try.prog 35 #[.int .i64 ((n + 1 : Nat) : Int)] w (GivesB w (twoB n)) := by
  have h1 : (((n + 1 : Nat) : Int)) - 1 = (n : Int) := by omega
  have h2 : wrap64 (n : Int) = (n : Int) := wrap64_of (by omega) (by omega)
  have hni : (n : Int) ≤ 281474976710656 := by omega
  have HO := Lib.hid (fun (v1 v2 : Value) (e1 : v1 = B8 (UInt8.ofNat (n / 256))) (e2 : v2 = B8 (UInt8.ofNat n)) => show Own w.heap.size (w.alloc (.cells #[v1, v2] 5)) (.slice (some ⟨w.heap.size, 0, none⟩) 2 2) (twoB n) by
    subst e1 e2; exact Own.lit w (twoB n) (Nat.le_refl _) (by unfold twoB; simp))
  obtain ⟨k, hk⟩ : ∃ k, ((n + 1 : Nat) : Int) = k := ⟨_, rfl⟩
  rw [hk] at h1 ⊢
  clear hk
  go_enter Try.func35, Try.ntmps35
  go_wp2_with fail
  go_ret
  refine ⟨_, rfl, HO.out _ _ ?_ ?_, (Below.refl _ _).alloc (Nat.le_refl _) _⟩
  · simp only [B8, IntKind.wrap_u16, UInt8.toNat_ofNat']; congr 1; omega
  · simp only [B8, IntKind.wrap_u16, UInt8.toNat_ofNat']; congr 1; omega
set_option maxHeartbeats 1000000 in
theorem props_any (lc lp pb : Nat) (nice chunk block check : Int) (chain : Value) (dict : Nat) (hlc : lc ≤ 4) (hlp : lp ≤ 4) (hpb : pb ≤ 4) (w : World) :
    Calls Try.prog 36 #[OptV lc lp pb nice chunk block check chain dict] w fun e w' => e = .returned (B8 (UInt8.ofNat (lc + 9 * (lp + 5 * pb)))) ∧ Below w.heap.size w w' := by
  obtain ⟨W, hW⟩ : ∃ W, w.alloc (.cells #[.int .i64 (lc : Nat), .int .i64 (lp : Nat), .int .i64 (pb : Nat), .int .i64 nice, .int .i64 chunk, .int .i64 block, .int .i64 check, chain, .int .u32 (dict : Nat)] 33) = W := ⟨_, rfl⟩
  obtain ⟨hrow, hbW⟩ := optBox (vs := optRow lc lp pb nice chunk block check chain dict) hW
  have c0 : W.cell? ⟨w.heap.size, 0, none⟩ = some (.int .i64 (lc : Nat)) := by rw [cell_of_row W _ _ _ _ _ hrow]; rfl
  have c1 : W.cell? ⟨w.heap.size, 1, none⟩ = some (.int .i64 (lp : Nat)) := by rw [cell_of_row W _ _ _ _ _ hrow]; rfl
  have c2 : W.cell? ⟨w.heap.size, 2, none⟩ = some (.int .i64 (pb : Nat)) := by rw [cell_of_row W _ _ _ _ _ hrow]; rfl
  have HW := Lib.hid hW
  have HBW := Lib.hid hbW
  have hi1 : (lc : Int) ≤ 4 := by omega
  have hi2 : (lp : Int) ≤ 4 := by omega
  have hi3 : (pb : Int) ≤ 4 := by omega
  have HE : Hid (Value.int IntKind.u8 ((lc : Int) + 9 * ((lp : Int) + 5 * (pb : Int))) = B8 (UInt8.ofNat (lc + 9 * (lp + 5 * pb)))) := Lib.hid (by
    simp only [B8, UInt8.toNat_ofNat']; congr 1; omega)
  clear hrow hW hbW
  go_enter Try.func36, Try.ntmps36
  go_upto_region 1 with fail
  rw [HW.out]
  go_wp2_with fail
  go_ret
  exact ⟨congrArg Ending.returned HE.out, HBW.out⟩
end Go.Proofs.Ytkckjjchfccdjaa

/- Options that came in. -/
namespace Go.Proofs.Ytkckjjchfccdjaa
set_option maxRecDepth 100000
open Go.ChangeShapes Go.WideShapes Go.ChangeAt Go.RowKit Go.Joins

set_option maxRecDepth 100000 in
theorem has_block {W : World} {b0 : Nat} {t e : TypeId} {a : Addr} {len cap : Nat} (ht : Try.prog.underlying t = some (.slice e)) (h : Value.okWide Try.prog W .any b0 t (.slice (some a) len cap)) : a.block < W.heap.size := by
  simp only [Value.okWide, ht, Cell.okWide, Cell.ok, World.has] at h
  obtain ⟨_, _, _, _, row, cells, hs, _⟩ := h
  rcases Nat.lt_or_ge a.block W.heap.size with h | h
  · exact h
  · unfold World.shape? at hs
    rw [Array.getElem?_eq_none h] at hs
    cases hs
set_option maxRecDepth 100000 in
theorem open_bytesb {H : Type} {enc : TypeId × Value → H} {W : World} {b0 : Nat} {v : Value} {d : DataW H} {p : List MemPlace}
    (hval : Value.okWide Try.prog W .any b0 22 v) (h : DataW.Trod enc Try.prog W 0 (fun _ => true) true 22 v d p) :
    ∃ (A : Option Addr) (l : List UInt8) (c : Nat), v = .slice A l.length c ∧ l.length ≤ c ∧ c ≤ 9223372036854775807 ∧ (Bytes W A l ∧ ∀ a, A = some a → a.block < W.heap.size) := by
  obtain ⟨A, l, c, rfl, h1, h2, h3⟩ := open_bytes hval h
  refine ⟨A, l, c, rfl, h1, h2, h3, fun a e => ?_⟩
  subst e
  exact has_block Try.underlying22 hval
theorem list9 {l : List Value} (h : l.length = 9) : ∃ a b c d e f g i j, l = [a, b, c, d, e, f, g, i, j] := by
  match l, h with
  | [a, b, c, d, e, f, g, i, j], _ => exact ⟨a, b, c, d, e, f, g, i, j, rfl⟩
set_option maxRecDepth 100000 in
theorem one_field {H : Type} {enc : TypeId × Value → H} {W : World} {n : Nat} {t : TypeId} {k : IntKind} {cs : List Value} {j : Nat} {y : Option (DataW H × List MemPlace)} (hk : Try.prog.underlying t = some (.int k)) (hl : j < cs.length)
    (hy : y.isSome = true) (h : DataW.trod enc Try.prog W 0 (fun _ => true) true n t ((cs.drop j).take 1) = y) : ∃ z, cs[j]? = some (.int k z) ∧ (Lit.int k z).wf = true := by
  obtain ⟨x, rfl⟩ := Option.isSome_iff_exists.1 hy
  obtain ⟨z, hz, _, hw⟩ := DataW.trod_int hk h
  refine ⟨z, ?_, hw⟩
  have e : (cs.drop j).take 1 = [cs[j]] := by rw [List.drop_eq_getElem_cons hl]; rfl
  rw [e] at hz
  injection hz with hz
  rw [List.getElem?_eq_getElem hl, hz]
theorem cellsOpt : Try.prog.cellsOf 33 = 9 := by kernel_rfl
set_option maxRecDepth 100000 in
theorem open_opts {H : Type} {enc : TypeId × Value → H} {W : World} {b0 : Nat} {v : Value} {d : DataW H} {p : List MemPlace}
    (hval : Value.okWide Try.prog W .any b0 33 v) (h : DataW.Trod enc Try.prog W 0 (fun _ => true) true 33 v d p) :
    ∃ (lc lp pb nice chunk block check : Int) (chain : Value) (dict : Nat), v = OptV lc lp pb nice chunk block check chain dict ∧ dict < 4294967296 := by
  obtain ⟨cs, rfl, hsz⟩ := okWide_struct Try.underlying33 hval
  rw [cellsOpt] at hsz
  obtain ⟨a, b, c, d', e, f, g, i, j, hl⟩ := list9 (l := cs.toList) (by simpa using hsz)
  obtain ⟨fuel, hf⟩ := h
  obtain ⟨ys, n', _, _, _, hyl, hfs⟩ := DataW.trod_struct Try.underlying33 hf
  have hsome : ∀ j, j < 9 → ys[j]?.isSome = true := fun j hj => by
    rw [List.getElem?_eq_getElem (by rw [hyl]; exact hj)]; rfl
  have hcl : (Value.agg cs).cells.toList.length = 9 := by simpa [Value.cells] using hsz
  obtain ⟨z0, e0, w0⟩ := one_field (j := 0) Try.underlying3 (by omega) (hsome 0 (by omega)) (hfs 0 _ rfl)
  obtain ⟨z1, e1, w1⟩ := one_field (j := 1) Try.underlying3 (by omega) (hsome 1 (by omega)) (hfs 1 _ rfl)
  obtain ⟨z2, e2, w2⟩ := one_field (j := 2) Try.underlying3 (by omega) (hsome 2 (by omega)) (hfs 2 _ rfl)
  obtain ⟨z3, e3, w3⟩ := one_field (j := 3) Try.underlying3 (by omega) (hsome 3 (by omega)) (hfs 3 _ rfl)
  obtain ⟨z4, e4, w4⟩ := one_field (j := 4) Try.underlying3 (by omega) (hsome 4 (by omega)) (hfs 4 _ rfl)
  obtain ⟨z5, e5, w5⟩ := one_field (j := 5) Try.underlying3 (by omega) (hsome 5 (by omega)) (hfs 5 _ rfl)
  obtain ⟨z6, e6, w6⟩ := one_field (j := 6) Try.underlying3 (by omega) (hsome 6 (by omega)) (hfs 6 _ rfl)
  obtain ⟨z8, e8, w8⟩ := one_field (j := 8) Try.underlying31 (by omega) (hsome 8 (by omega)) (hfs 8 _ rfl)
  have hce : (Value.agg cs).cells.toList = [a, b, c, d', e, f, g, i, j] := hl
  rw [hce] at e0 e1 e2 e3 e4 e5 e6 e8
  simp only [List.getElem?_cons_zero, List.getElem?_cons_succ, Option.some.injEq] at e0 e1 e2 e3 e4 e5 e6 e8
  subst e0 e1 e2 e3 e4 e5 e6 e8
  refine ⟨z0, z1, z2, z3, z4, z5, z6, i, (BitVec.ofNat 32 z8.toNat).toNat, ?_, (BitVec.ofNat 32 z8.toNat).isLt⟩
  have e32 := wf_bv32 w8
  show Value.agg cs = .agg #[.int .i64 z0, .int .i64 z1, .int .i64 z2, .int .i64 z3, .int .i64 z4, .int .i64 z5, .int .i64 z6, i, .int .u32 ((BitVec.ofNat 32 z8.toNat).toNat : Nat)]
  rw [← e32]
  obtain ⟨cl⟩ := cs
  have : cl = _ := hl
  subst this
  rfl
end Go.Proofs.Ytkckjjchfccdjaa
