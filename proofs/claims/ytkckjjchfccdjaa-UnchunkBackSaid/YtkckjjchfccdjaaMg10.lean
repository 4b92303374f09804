/- Several texts in one: MdMatch, MdRept. -/
import Derived.Test.YtkckjjchfccdjaaMg1
import Derived.Test.YtkckjjchfccdjaaMdFront
import Derived.Test.YtkckjjchfccdjaaMg9
/- The model's match. -/
namespace Go.Proofs.Ytkckjjchfccdjaa
set_option maxRecDepth 100000
open Go.RowKit

theorem sy_boxes {w W1 : World} {v0 v1 v2 v3 v4 : Value} (h : (w.alloc (.cells #[v0, v1, v2, v3, v4] 99)).alloc (.cells #[.int .i64 0, .int .u8 0, .int .i64 0, .int .i64 0, .int .i64 0] 99) = W1) :
    (W1.cell? ⟨w.heap.size, 0, none⟩ = some v0 ∧ W1.cell? ⟨w.heap.size, 1, none⟩ = some v1 ∧ W1.cell? ⟨w.heap.size, 2, none⟩ = some v2 ∧ W1.cell? ⟨w.heap.size, 3, none⟩ = some v3 ∧ W1.cell? ⟨w.heap.size, 4, none⟩ = some v4) ∧
    W1.heap[w.heap.size + 1]? = some (.cells [Value.int .i64 0, .int .u8 0, .int .i64 0, .int .i64 0, .int .i64 0].toArray 99 (0, 0)) := by
  have h0 : W1.heap[w.heap.size]? = some (.cells [v0, v1, v2, v3, v4].toArray 99 (0, 0)) := by
    rw [← h]; exact (Below.heap_alloc _ _ _ (by simp)).trans (heap_alloc_last w _)
  have h1 : W1.heap[w.heap.size + 1]? = some (.cells [Value.int .i64 0, .int .u8 0, .int .i64 0, .int .i64 0, .int .i64 0].toArray 99 (0, 0)) := by
    rw [← h]
    have h := heap_alloc_last (w.alloc (.cells #[v0, v1, v2, v3, v4] 99)) (.cells #[.int .i64 0, .int .u8 0, .int .i64 0, .int .i64 0, .int .i64 0] 99)
    simpa using h
  refine ⟨⟨?_, ?_, ?_, ?_, ?_⟩, h1⟩ <;> (rw [cell_of_row W1 _ _ _ _ _ h0]; rfl)
theorem went_undrew {io : Io} {C L lc lp pb st : Nat} {r : R4} {x : io.S} {X : List Nat} {w w' : World} {n : Nat} (h : Went io C L lc lp pb st r x X (w.drewN n) w') : Went io C L lc lp pb st r x X w w' := by
  obtain ⟨X', hM, hon, hX⟩ := h
  exact ⟨X', hM, Only.undrewN hon, hX⟩
theorem MS.front {io : Io} {w w' : World} {C L lc lp pb st : Nat} {r r' : R4} {x : io.S} {X : List Nat} (h : MS io w C L lc lp pb st r x X) (hm : ModAt w' C L lc lp pb st r' x.1) (ho : Only [C] w w') : MS io w' C L lc lp pb st r' x X :=
  ⟨hm, io.keep h.io ho.size (fun i hi => ho.block i (io.lt h.io i hi) (fun e => h.outC (by simp at e; rw [← e]; exact hi))), h.outC, h.outL⟩
set_option maxRecDepth 100000 in
set_option maxHeartbeats 2000000 in
theorem match_is (io : Io) {C L lc lp pb st : Nat} {r : R4} {x : io.S} {X : List Nat} {w : World} (hM : MS io w C L lc lp pb st r x X) {p k : Nat} (hp : p < 16) (kk : Int) (b : UInt8) (l d q : Int) (hl0 : 0 ≤ l) (hl1 : l ≤ 300) (hd0 : 0 ≤ d) (hd1 : d ≤ 4294967295)
    {n dd : Nat} {y Z : io.S} (hR1 : Md.len io 432 p l x = (n, y)) (hR2 : Md.dist io n d y = (dd, Z)) (hok : io.ok x.2 (k + 52)) :
    Calls Try.prog 90 #[PF C, io.v, .int .i64 (p : Nat), SyV kk b l d q] w (MAnd (2 ≤ n ∧ n ≤ 273 ∧ 1 ≤ dd ∧ dd ≤ 4294967296 ∧ io.ok Z.2 k) (MDone (SyV 1 0 (n : Nat) (dd : Nat) 0) io C L lc lp pb (if st < 7 then 7 else 10) (frontR r 3 (dd : Nat)) Z X w)) := by
  obtain ⟨ls, hls⟩ : ∃ ls, (if st < 7 then 7 else 10) = ls := ⟨_, rfl⟩
  rw [hls]
  have HLSS := Lib.hid hls
  obtain ⟨r', hr'⟩ : ∃ r', frontR r 3 (dd : Nat) = r' := ⟨_, rfl⟩
  rw [hr']
  have HR' := Lib.hid hr'
  obtain ⟨Q, hQ⟩ : ∃ Q, (2 ≤ n ∧ n ≤ 273 ∧ 1 ≤ dd ∧ dd ≤ 4294967296 ∧ io.ok Z.2 k) = Q := ⟨_, rfl⟩
  rw [hQ]
  have HQ := Lib.hid hQ
  clear hls hr' hQ
  have HOUT : Hid (∀ i ∈ C :: L :: X, i < w.heap.size) := Lib.hid (by
    intro i hi
    simp only [List.mem_cons] at hi
    rcases hi with rfl | rfl | hi
    · exact hM.mod.clt
    · exact hM.mod.llt
    · exact io.lt hM.io i hi)
  obtain ⟨bs, hbs⟩ : ∃ bs, w.heap.size + 1 = bs := ⟨_, rfl⟩
  have HBS := Lib.hid hbs
  clear hbs
  obtain ⟨W1, hW1⟩ : ∃ W1, (w.alloc (.cells #[.int .i64 kk, .int .u8 (b.toNat : Nat), .int .i64 l, .int .i64 d, .int .i64 q] 99)).alloc (.cells #[.int .i64 0, .int .u8 0, .int .i64 0, .int .i64 0, .int .i64 0] 99) = W1 := ⟨_, rfl⟩
  have hb1 : Below w.heap.size w W1 := by rw [← hW1]; exact ((Below.refl _ _).alloc (Nat.le_refl _) _).alloc (by simp) _
  have hM1 := hM.below hb1
  obtain ⟨hsy, hrs⟩ := sy_boxes hW1
  rw [HBS.out] at hrs
  have HW1 := Lib.hid hW1
  have HM1 := Lib.hid hM1
  have HSY := Lib.hid hsy
  have HRS := Lib.hid hrs
  have HB1 := Lib.hid hb1
  have ne1 : C ≠ bs := fun e => by have := HOUT.out C (by simp); have := HBS.out; omega
  have ne2 : bs ≠ C := fun e => ne1 e.symm
  have hbo : Hid (w.heap.size ∉ C :: L :: X ∧ bs ∉ C :: L :: X) := Lib.hid ⟨fun h => by have := HOUT.out _ h; omega, fun h => by have := HOUT.out _ h; have := HBS.out; omega⟩
  clear hW1 hM1 hsy hrs hb1 hM
  have HLEN := Lib.hid (len_is io (HM1.out.drewN 1) hR1 (k := k + 42) hok (.inl rfl) hp hl0 hl1)
  have HR2 := Lib.hid hR2
  have hpi : (p : Int) < 16 := by omega
  have hdr := HSY.out.2.2.1
  clear hR1 hR2 hok
  go_enter Try.func90, Try.ntmps90
  go_upto_region 1 with fail
  rw [HW1.out, HBS.out]
  refine wp_region_held_drew (S := fun w2 => w2.cell? ⟨w.heap.size, 2, none⟩ = some (.int .i64 l)) (by kernel_rfl) hdr (fun hS => ?_)
  refine tk 0 (v := ?vma1) ?yma1 hS ?_
  case yma1 =>
    intro w hSw
    go_simp; all_goals (with_reducible rfl)
  simp only [Act.put, List.setIfInBounds_toArray, List.set_cons_zero, List.set_cons_succ]
  refine tk 1 (v := ?vma2) ?yma2 hS ?_
  case yma2 =>
    intro w hSw
    go_simp; all_goals (with_reducible rfl)
  simp only [Act.put, List.setIfInBounds_toArray, List.set_cons_zero, List.set_cons_succ]
  refine tk 2 (v := ?vma3) ?yma3 hS ?_
  case yma3 =>
    intro w hSw
    go_simp; all_goals (with_reducible rfl)
  simp only [Act.put, List.setIfInBounds_toArray, List.set_cons_zero, List.set_cons_succ]
  refine tk 3 (v := ?vma4) ?yma4 hS ?_
  case yma4 =>
    intro w hSw
    go_simp; all_goals (with_reducible rfl)
  simp only [Act.put, List.setIfInBounds_toArray, List.set_cons_zero, List.set_cons_succ]
  refine tk 4 (v := ?vma5) ?yma5 hS ?_
  case yma5 =>
    intro w hSw
    go_simp; all_goals (with_reducible rfl)
  simp only [Act.put, List.setIfInBounds_toArray, List.set_cons_zero, List.set_cons_succ]
  refine tk 5 (v := ?vma6) ?yma6 hS ?_
  case yma6 =>
    intro w hSw
    go_simp; all_goals (with_reducible rfl)
  simp only [Act.put, List.setIfInBounds_toArray, List.set_cons_zero, List.set_cons_succ]
  refine tk 6 (v := ?vma7) ?yma7 hS ?_
  case yma7 =>
    intro w hSw
    have q1 := hSw
    go_simp; all_goals (with_reducible rfl)
  simp only [Act.put, List.setIfInBounds_toArray, List.set_cons_zero, List.set_cons_succ]
  refine wpAnyH_ready (rs := [7]) (by kernel_rfl) (by simp) ?_
  refine (AllReadyH.cons (o := { dst := some 18, op := Op.call { callee := Callee.value (Operand.func 100), args := #[Operand.tmp 13, Operand.tmp 14, Operand.tmp 15, Operand.tmp 17], argTypes := #[113, 163, 3, 3] }, type := 3, pos := "model.go:145", after := #[{ on := 2, ground := Ground.data }, { on := 3, ground := Ground.data }, { on := 4, ground := Ground.data }, { on := 6, ground := Ground.data }], guard := none }) rfl (fun K hK => ?_) AllReadyH.nil)
  go_simp
  refine HLEN.out.mono ?_
  rintro e x4 ⟨⟨rfl, hw4⟩, hn1, hn2, ok4⟩
  obtain ⟨X4, hM4, hon4, hX4⟩ := (show Went io C L lc lp pb st r y X W1 x4 from went_undrew hw4)
  have HON4 := Lib.hid hon4
  have g4 := cell_only HON4.out hbo.out.1 HSY.out.2.2.1
  have HM4 := Lib.hid hM4
  have HX4 := Lib.hid hX4
  have HOK4 := Lib.hid ok4
  have HN4 := Lib.hid (And.intro hn1 hn2)
  have hn4i : (n : Int) ≤ 273 := by omega
  clear hM4 hon4 hX4 ok4 hn1 hn2
  go_wp2_with fail
  refine hK.out _ _ g4 (fun _ => ?_)
  clear hK K
  refine tk 8 (v := ?vma8) ?yma8 g4 ?_
  case yma8 =>
    intro w hSw
    go_simp; all_goals (with_reducible rfl)
  simp only [Act.put, List.setIfInBounds_toArray, List.set_cons_zero, List.set_cons_succ]
  refine wpAnyH_done (by kernel_rfl) ?_ _

  have g4' := cell_only HON4.out hbo.out.1 HSY.out.2.2.2.1
  clear hS g4 hdr HLEN
  have HDIS := Lib.hid (dist_is io (HM4.out.drewN 1) HR2.out HOK4.out HN4.out.1 (by have := HN4.out; omega) hd0 hd1)
  have hdr := g4'
  have HX4' := HX4
  go_upto_region 2 with fail
  refine wp_region_held_drew (S := fun w2 => w2.cell? ⟨w.heap.size, 3, none⟩ = some (.int .i64 d)) (by kernel_rfl) hdr (fun hS => ?_)
  refine tk 0 (v := ?vmb9) ?ymb9 hS ?_
  case ymb9 =>
    intro w hSw
    go_simp; all_goals (with_reducible rfl)
  simp only [Act.put, List.setIfInBounds_toArray, List.set_cons_zero, List.set_cons_succ]
  refine tk 1 (v := ?vmb10) ?ymb10 hS ?_
  case ymb10 =>
    intro w hSw
    go_simp; all_goals (with_reducible rfl)
  simp only [Act.put, List.setIfInBounds_toArray, List.set_cons_zero, List.set_cons_succ]
  refine tk 2 (v := ?vmb11) ?ymb11 hS ?_
  case ymb11 =>
    intro w hSw
    go_simp; all_goals (with_reducible rfl)
  simp only [Act.put, List.setIfInBounds_toArray, List.set_cons_zero, List.set_cons_succ]
  refine tk 3 (v := ?vmb12) ?ymb12 hS ?_
  case ymb12 =>
    intro w hSw
    go_simp; all_goals (with_reducible rfl)
  simp only [Act.put, List.setIfInBounds_toArray, List.set_cons_zero, List.set_cons_succ]
  refine tk 4 (v := ?vmb13) ?ymb13 hS ?_
  case ymb13 =>
    intro w hSw
    go_simp; all_goals (with_reducible rfl)
  simp only [Act.put, List.setIfInBounds_toArray, List.set_cons_zero, List.set_cons_succ]
  refine tk 5 (v := ?vmb14) ?ymb14 hS ?_
  case ymb14 =>
    intro w hSw
    go_simp; all_goals (with_reducible rfl)
  simp only [Act.put, List.setIfInBounds_toArray, List.set_cons_zero, List.set_cons_succ]
  refine tk 6 (v := ?vmb15) ?ymb15 hS ?_
  case ymb15 =>
    intro w hSw
    have q1 := hSw
    go_simp; all_goals (with_reducible rfl)
  simp only [Act.put, List.setIfInBounds_toArray, List.set_cons_zero, List.set_cons_succ]
  refine wpAnyH_ready (rs := [7]) (by kernel_rfl) (by simp) ?_
  refine (AllReadyH.cons (o := { dst := some 26, op := Op.call { callee := Callee.value (Operand.func 101), args := #[Operand.tmp 21, Operand.tmp 22, Operand.tmp 23, Operand.tmp 25], argTypes := #[119, 163, 3, 3] }, type := 3, pos := "model.go:146", after := #[{ on := 2, ground := Ground.data }, { on := 3, ground := Ground.data }, { on := 4, ground := Ground.data }, { on := 6, ground := Ground.data }], guard := none }) rfl (fun K hK => ?_) AllReadyH.nil)
  go_simp
  refine HDIS.out.mono ?_
  rintro e x5 ⟨⟨rfl, hw5⟩, hd1, hd2, ok5⟩
  obtain ⟨X5, hM5, hon5, hX5⟩ := Went.trans HON4.out HX4.out (show Went io C L lc lp pb st r Z X4 x4 x5 from went_undrew hw5)
  have HON5 := Lib.hid hon5
  have g5 := cell_only HON5.out hbo.out.1 HSY.out.2.2.2.1
  have HM5 := Lib.hid hM5
  have HX5 := Lib.hid hX5
  have HOK5 := Lib.hid ok5
  have HD5 := Lib.hid (And.intro hd1 hd2)
  clear hM5 hon5 hX5 ok5 hd1 hd2 hw5
  go_wp2_with fail
  refine hK.out _ _ g5 (fun _ => ?_)
  clear hK K
  refine tk 8 (v := ?vmb16) ?ymb16 g5 ?_
  case ymb16 =>
    intro w hSw
    go_simp; all_goals (with_reducible rfl)
  simp only [Act.put, List.setIfInBounds_toArray, List.set_cons_zero, List.set_cons_succ]
  refine wpAnyH_done (by kernel_rfl) ?_ _

  clear hS g5 hdr HDIS g4'
  have HFR := Lib.hid (front_any HM5.out.mod 3 (by omega) (dd : Nat))
  rw [HR'.out] at HFR
  have HNX : Hid (∀ i ∈ X5, i ∈ X ∨ W1.heap.size ≤ i) := HX5
  go_wp2_with fail
  refine HFR.out.mono ?_
  rintro e x6 ⟨rfl, hm6, ho6⟩
  have hM6 := HM5.out.front hm6 ho6
  have hon6 : Only (C :: L :: X) W1 x6 := HON5.out.trans ho6 (fun i hi => .inl (by simp at hi; simp [hi]))
  have HM6 := Lib.hid hM6
  have HON := Lib.hid hon6
  obtain ⟨_, _, _, c3, _⟩ := hM6.mod.cells
  have f3 := hM6.mod.frozenC 3
  have hAF := after2_any st 7 10 x6
  rw [HLSS.out] at hAF
  have HAF := Lib.hid hAF
  have hrs := (HON.out.block bs (by have := (Array.getElem?_eq_some_iff.1 HRS.out).1; exact this) hbo.out.2).trans HRS.out
  have z0 : x6.cell? ⟨bs, 0, none⟩ = some (.int .i64 0) := by rw [cell_of_row x6 _ _ _ _ _ hrs]; rfl
  have z1 : x6.cell? ⟨bs, 1, none⟩ = some (.int .u8 0) := by rw [cell_of_row x6 _ _ _ _ _ hrs]; rfl
  have z2 : x6.cell? ⟨bs, 2, none⟩ = some (.int .i64 0) := by rw [cell_of_row x6 _ _ _ _ _ hrs]; rfl
  have z3 : x6.cell? ⟨bs, 3, none⟩ = some (.int .i64 0) := by rw [cell_of_row x6 _ _ _ _ _ hrs]; rfl
  have z4 : x6.cell? ⟨bs, 4, none⟩ = some (.int .i64 0) := by rw [cell_of_row x6 _ _ _ _ _ hrs]; rfl
  have zf : ∀ i, x6.frozen? ⟨bs, i, none⟩ = false := fun i => frozen_of_row _ _ _ _ _ hrs
  have zf0 := zf 0
  have zf1 := zf 1
  have zf2 := zf 2
  have zf3 := zf 3
  have zf4 := zf 4
  clear hrs zf
  clear hm6 ho6 hM6 hon6 hAF HFR
  go_wp2_with fail
  refine HAF.out.mono ?_
  rintro e x7 ⟨rfl, rfl⟩
  go_wp2_with fail
  refine bodyPost_ret (v := SyV 1 0 (n : Nat) (dd : Nat) 0) (by simp [results, Try.results90, go_sem, z0, z1, z2, z3, z4]) rfl ⟨⟨rfl, X5, ?_, ?_, ?_⟩, by rw [← HQ.out]; exact ⟨HN4.out.1, HN4.out.2, HD5.out.1, HD5.out.2, HOK5.out⟩⟩
  · have hbX : bs ∉ C :: L :: X5 := fun h => by
      simp only [List.mem_cons] at h
      rcases h with h | h | h
      · exact ne2 h
      · have := HOUT.out L (by simp); have := HBS.out; omega
      · rcases HNX.out _ h with h | h
        · have := HOUT.out bs (by simp [h]); have := HBS.out; omega
        · have := (Array.getElem?_eq_some_iff.1 HRS.out).1; omega
    exact (((((HM6.out.setHead (k := 3) (st' := ls) (r' := r') (by decide) rfl).setFar hbX _).setFar hbX _).setFar hbX _).setFar hbX _).setFar hbX _
  · have h0 : Only (C :: L :: X) w x6 := (Only.of_below HB1.out).trans HON.out (fun i hi => .inl hi)
    have hn : bs ∈ C :: L :: X ∨ w.heap.size ≤ bs := .inr (by have := HBS.out; omega)
    exact (((((h0.setCell (p := ⟨C, 3, none⟩) (.inl (by simp)) _).setCell (p := ⟨bs, 0, none⟩) hn _).setCell (p := ⟨bs, 1, none⟩) hn _).setCell (p := ⟨bs, 2, none⟩) hn _).setCell (p := ⟨bs, 3, none⟩) hn _).setCell (p := ⟨bs, 4, none⟩) hn _
  · intro i hi
    rcases HNX.out i hi with h | h
    · exact .inl h
    · exact .inr (Nat.le_trans HB1.out.size h)
end Go.Proofs.Ytkckjjchfccdjaa

/- The model's repeat. -/
namespace Go.Proofs.Ytkckjjchfccdjaa
set_option maxRecDepth 100000
open Go.RowKit

theorem went_trans_undrew {io : Io} {C L lc lp pb st' : Nat} {r' : R4} {x' : io.S} {X X1 : List Nat} {w w1 w2 : World} {n : Nat} (ho : Only (C :: L :: X) w w1 ∧ ∀ i ∈ X1, i ∈ X ∨ w.heap.size ≤ i) (h : Went io C L lc lp pb st' r' x' X1 (w1.drewN n) w2) : Went io C L lc lp pb st' r' x' X w w2 := Went.trans ho.1 ho.2 (went_undrew h)
namespace Md
def which (io : Io) (st : Nat) (q : Int) (x : io.S) : Nat × io.S :=
  let a := io.bitAt (204 + st) (q != 0) x
  if a.1 = false then (0, a.2)
  else
    let b := io.bitAt (216 + st) (q != 1) a.2
    if b.1 = false then (1, b.2)
    else
      let c := io.bitAt (228 + st) (q != 2) b.2
      (2 + c.1.toNat, c.2)
/-- Which repeat, and its length. -/
def rept (io : Io) (st p : Nat) (l q : Int) (x : io.S) : (Nat × Nat) × io.S :=
  let w := which io st q x
  if w.1 = 0 then
    let s := io.bitAt (240 + 16 * st + p) (l != 1) w.2
    if s.1 = false then ((0, 1), s.2)
    else
      let n := len io 946 p l s.2
      ((0, n.1), n.2)
  else
    let n := len io 946 p l w.2
    ((w.1, n.1), n.2)
end Md
set_option maxRecDepth 100000 in
set_option maxHeartbeats 2000000 in
theorem which_is (io : Io) {C L lc lp pb st : Nat} {r : R4} {x : io.S} {X : List Nat} {w : World} (hM : MS io w C L lc lp pb st r x X) (hst : st < 12) {k wh : Nat} {q : Int} {Z : io.S} (hR : Md.which io st q x = (wh, Z)) (hok : io.ok x.2 (k + 3)) :
    Calls Try.prog 104 #[PF C, io.v, .int .i64 q] w (MAnd (wh ≤ 3 ∧ io.ok Z.2 k) (MDone (.int .i64 (wh : Nat)) io C L lc lp pb st r Z X w)) := by
  obtain ⟨Q, hQ⟩ : ∃ Q, (wh ≤ 3 ∧ io.ok Z.2 k) = Q := ⟨_, rfl⟩
  rw [hQ]
  have HQ := Lib.hid hQ
  have hsti : (st : Int) < 12 := by omega
  have HST := Lib.hid hst
  unfold Md.which at hR
  obtain ⟨⟨A, y⟩, hy⟩ : ∃ z, io.bitAt (204 + st) (q != 0) x = z := ⟨_, rfl⟩
  obtain ⟨h1, ok1⟩ := bit_is io (hM.drewN 1) hy (at_ := 204) (j := st) (len := 12) (cp := 12) (b := C) (off := 212) rfl (k := k + 2) hok (Md.seg_head rfl (by omega)) hst (by omega) (by omega)
  simp only [hy] at hR
  have H1 := Lib.hid h1
  have HOK1 := Lib.hid ok1
  have HR := Lib.hid hR
  have hon0 : Only (C :: L :: X) w w ∧ ∀ i ∈ X, i ∈ X ∨ w.heap.size ≤ i := ⟨Only.refl _ _, fun i hi => .inl hi⟩
  have HON0 := Lib.hid hon0
  have hdr := hM.mod.cells.2.2.2.1
  have hc3 := hdr
  clear hy hR h1 ok1 hok hQ hM hst hon0
  go_enter Try.func104, Try.ntmps104
  go_upto_region 2 with fail
  refine wp_region_held_drew (S := fun w2 => w2.cell? ⟨C, 3, none⟩ = some (.int .i64 (st : Nat))) (by kernel_rfl) hdr (fun hS => ?_)
  refine tk 0 (v := ?vwa1) ?ywa1 hS ?_
  case ywa1 =>
    intro w hSw
    go_simp; all_goals (with_reducible rfl)
  simp only [Act.put, List.setIfInBounds_toArray, List.set_cons_zero, List.set_cons_succ]
  refine tk 1 (v := ?vwa2) ?ywa2 hS ?_
  case ywa2 =>
    intro w hSw
    go_simp; all_goals (with_reducible rfl)
  simp only [Act.put, List.setIfInBounds_toArray, List.set_cons_zero, List.set_cons_succ]
  refine tk 2 (v := ?vwa3) ?ywa3 hS ?_
  case ywa3 =>
    intro w hSw
    go_simp; all_goals (with_reducible rfl)
  simp only [Act.put, List.setIfInBounds_toArray, List.set_cons_zero, List.set_cons_succ]
  refine tk 3 (v := ?vwa4) ?ywa4 hS ?_
  case ywa4 =>
    intro w hSw
    go_simp; all_goals (with_reducible rfl)
  simp only [Act.put, List.setIfInBounds_toArray, List.set_cons_zero, List.set_cons_succ]
  refine tk 4 (v := ?vwa5) ?ywa5 hS ?_
  case ywa5 =>
    intro w hSw
    go_simp; all_goals (with_reducible rfl)
  simp only [Act.put, List.setIfInBounds_toArray, List.set_cons_zero, List.set_cons_succ]
  refine tk 5 (v := ?vwa6) ?ywa6 hS ?_
  case ywa6 =>
    intro w hSw
    go_simp; all_goals (with_reducible rfl)
  simp only [Act.put, List.setIfInBounds_toArray, List.set_cons_zero, List.set_cons_succ]
  refine tk 6 (v := ?vwa7) ?ywa7 hS ?_
  case ywa7 =>
    intro w hSw
    go_simp; all_goals (with_reducible rfl)
  simp only [Act.put, List.setIfInBounds_toArray, List.set_cons_zero, List.set_cons_succ]
  refine tk 7 (v := ?vwa8) ?ywa8 hS ?_
  case ywa8 =>
    intro w hSw
    go_simp; all_goals (with_reducible rfl)
  simp only [Act.put, List.setIfInBounds_toArray, List.set_cons_zero, List.set_cons_succ]
  refine tk 8 (v := ?vwa9) ?ywa9 hS ?_
  case ywa9 =>
    intro w hSw
    have q1 := hSw
    go_simp; all_goals (with_reducible rfl)
  simp only [Act.put, List.setIfInBounds_toArray, List.set_cons_zero, List.set_cons_succ]
  refine tk 9 (v := ?vwa10) ?ywa10 hS ?_
  case ywa10 =>
    intro w hSw
    go_simp; all_goals (with_reducible rfl)
  simp only [Act.put, List.setIfInBounds_toArray, List.set_cons_zero, List.set_cons_succ]
  refine tk 10 (v := ?vwa11) ?ywa11 hS ?_
  case ywa11 =>
    intro w hSw
    go_simp; all_goals (with_reducible rfl)
  simp only [Act.put, List.setIfInBounds_toArray, List.set_cons_zero, List.set_cons_succ]
  refine wpAnyH_ready (rs := [11]) (by kernel_rfl) (by simp) ?_
  refine (AllReadyH.cons (o := { dst := some 32, op := Op.call { callee := Callee.value (Operand.func 88), args := #[Operand.tmp 21, Operand.tmp 25, Operand.tmp 29, Operand.tmp 31], argTypes := #[163, 92, 3, 4] }, type := 3, pos := "model.go:166", after := #[{ on := 0, ground := Ground.data }, { on := 4, ground := Ground.data }, { on := 8, ground := Ground.data }, { on := 10, ground := Ground.data }], guard := none }) rfl (fun K hK => ?_) AllReadyH.nil)
  go_simp
  refine H1.out.mono ?_
  rintro e x1 ⟨rfl, hwx1⟩
  obtain ⟨X1, hMx1, honx1, hXx1⟩ := went_trans_undrew HON0.out hwx1
  have HMx1 := Lib.hid hMx1
  have HOx1 := Lib.hid (And.intro honx1 hXx1)
  have gx1 := hMx1.mod.cells.2.2.2.1
  clear hMx1 honx1 hXx1 hwx1
  go_wp2_with fail
  refine hK.out _ _ gx1 (fun _ => ?_)
  clear hK K
  refine tk 12 (v := ?vwa12) ?ywa12 gx1 ?_
  case ywa12 =>
    intro w hSw
    go_simp; all_goals (with_reducible rfl)
  simp only [Act.put, List.setIfInBounds_toArray, List.set_cons_zero, List.set_cons_succ]
  refine tk 13 (v := ?vwa13) ?ywa13 gx1 ?_
  case ywa13 =>
    intro w hSw
    go_simp; all_goals (with_reducible rfl)
  simp only [Act.put, List.setIfInBounds_toArray, List.set_cons_zero, List.set_cons_succ]
  refine wpAnyH_done (by kernel_rfl) ?_ _

  clear hS hdr hc3 H1
  cases A with
  | false =>
    have hR := HR.out
    simp only [if_true] at hR
    injection hR with hR1 hR2
    have HRE := Lib.hid (And.intro hR1.symm hR2.symm)
    clear hR1 hR2
    rw [show bitI false = 0 from rfl]
    go_wp2_with fail
    go_ret
    obtain ⟨e1, e2⟩ := HRE.out
    subst e1 e2
    exact ⟨⟨rfl, X1, HMx1.out, HOx1.out.1, HOx1.out.2⟩, by rw [← HQ.out]; exact ⟨by omega, io.le HOK1.out (by omega)⟩⟩
  | true =>
    have hR := HR.out
    simp only [Bool.true_eq_false, if_false] at hR
    obtain ⟨⟨B, y2⟩, hy⟩ : ∃ z, io.bitAt (216 + st) (q != 1) y = z := ⟨_, rfl⟩
    obtain ⟨h1, ok1⟩ := bit_is io (HMx1.out.drewN 1) hy (at_ := 216) (j := st) (len := 12) (cp := 12) (b := C) (off := 224) rfl (k := k + 1) HOK1.out (Md.seg_head rfl (by omega)) HST.out (by omega) (by omega)
    simp only [hy] at hR
    have H1 := Lib.hid h1
    have HOK2 := Lib.hid ok1
    have HR2 := Lib.hid hR
    clear hy hR h1 ok1
    rw [show bitI true = 1 from rfl]
    have hdr := HMx1.out.mod.cells.2.2.2.1
    go_upto_region 4 with fail
    refine wp_region_held_drew (S := fun w2 => w2.cell? ⟨C, 3, none⟩ = some (.int .i64 (st : Nat))) (by kernel_rfl) hdr (fun hS => ?_)
    refine tk 0 (v := ?vwb14) ?ywb14 hS ?_
    case ywb14 =>
      intro w hSw
      go_simp; all_goals (with_reducible rfl)
    simp only [Act.put, List.setIfInBounds_toArray, List.set_cons_zero, List.set_cons_succ]
    refine tk 1 (v := ?vwb15) ?ywb15 hS ?_
    case ywb15 =>
      intro w hSw
      go_simp; all_goals (with_reducible rfl)
    simp only [Act.put, List.setIfInBounds_toArray, List.set_cons_zero, List.set_cons_succ]
    refine tk 2 (v := ?vwb16) ?ywb16 hS ?_
    case ywb16 =>
      intro w hSw
      go_simp; all_goals (with_reducible rfl)
    simp only [Act.put, List.setIfInBounds_toArray, List.set_cons_zero, List.set_cons_succ]
    refine tk 3 (v := ?vwb17) ?ywb17 hS ?_
    case ywb17 =>
      intro w hSw
      go_simp; all_goals (with_reducible rfl)
    simp only [Act.put, List.setIfInBounds_toArray, List.set_cons_zero, List.set_cons_succ]
    refine tk 4 (v := ?vwb18) ?ywb18 hS ?_
    case ywb18 =>
      intro w hSw
      go_simp; all_goals (with_reducible rfl)
    simp only [Act.put, List.setIfInBounds_toArray, List.set_cons_zero, List.set_cons_succ]
    refine tk 5 (v := ?vwb19) ?ywb19 hS ?_
    case ywb19 =>
      intro w hSw
      go_simp; all_goals (with_reducible rfl)
    simp only [Act.put, List.setIfInBounds_toArray, List.set_cons_zero, List.set_cons_succ]
    refine tk 6 (v := ?vwb20) ?ywb20 hS ?_
    case ywb20 =>
      intro w hSw
      go_simp; all_goals (with_reducible rfl)
    simp only [Act.put, List.setIfInBounds_toArray, List.set_cons_zero, List.set_cons_succ]
    refine tk 7 (v := ?vwb21) ?ywb21 hS ?_
    case ywb21 =>
      intro w hSw
      go_simp; all_goals (with_reducible rfl)
    simp only [Act.put, List.setIfInBounds_toArray, List.set_cons_zero, List.set_cons_succ]
    refine tk 8 (v := ?vwb22) ?ywb22 hS ?_
    case ywb22 =>
      intro w hSw
      have q1 := hSw
      go_simp; all_goals (with_reducible rfl)
    simp only [Act.put, List.setIfInBounds_toArray, List.set_cons_zero, List.set_cons_succ]
    refine tk 9 (v := ?vwb23) ?ywb23 hS ?_
    case ywb23 =>
      intro w hSw
      go_simp; all_goals (with_reducible rfl)
    simp only [Act.put, List.setIfInBounds_toArray, List.set_cons_zero, List.set_cons_succ]
    refine tk 10 (v := ?vwb24) ?ywb24 hS ?_
    case ywb24 =>
      intro w hSw
      go_simp; all_goals (with_reducible rfl)
    simp only [Act.put, List.setIfInBounds_toArray, List.set_cons_zero, List.set_cons_succ]
    refine wpAnyH_ready (rs := [11]) (by kernel_rfl) (by simp) ?_
    refine (AllReadyH.cons (o := { dst := some 46, op := Op.call { callee := Callee.value (Operand.func 88), args := #[Operand.tmp 35, Operand.tmp 39, Operand.tmp 43, Operand.tmp 45], argTypes := #[163, 92, 3, 4] }, type := 3, pos := "model.go:168", after := #[{ on := 0, ground := Ground.data }, { on := 4, ground := Ground.data }, { on := 8, ground := Ground.data }, { on := 10, ground := Ground.data }], guard := none }) rfl (fun K hK => ?_) AllReadyH.nil)
    go_simp
    refine H1.out.mono ?_
    rintro e x2 ⟨rfl, hwx2⟩
    obtain ⟨X2, hMx2, honx2, hXx2⟩ := went_trans_undrew HOx1.out hwx2
    have HMx2 := Lib.hid hMx2
    have HOx2 := Lib.hid (And.intro honx2 hXx2)
    have gx2 := hMx2.mod.cells.2.2.2.1
    clear hMx2 honx2 hXx2 hwx2
    go_wp2_with fail
    refine hK.out _ _ gx2 (fun _ => ?_)
    clear hK K
    refine tk 12 (v := ?vwb25) ?ywb25 gx2 ?_
    case ywb25 =>
      intro w hSw
      go_simp; all_goals (with_reducible rfl)
    simp only [Act.put, List.setIfInBounds_toArray, List.set_cons_zero, List.set_cons_succ]
    refine tk 13 (v := ?vwb26) ?ywb26 gx2 ?_
    case ywb26 =>
      intro w hSw
      go_simp; all_goals (with_reducible rfl)
    simp only [Act.put, List.setIfInBounds_toArray, List.set_cons_zero, List.set_cons_succ]
    refine wpAnyH_done (by kernel_rfl) ?_ _

    clear hS hdr H1
    cases B with
    | false =>
      have hR := HR2.out
      simp only [if_true] at hR
      injection hR with hR1 hR2
      have HRE := Lib.hid (And.intro hR1.symm hR2.symm)
      clear hR1 hR2
      rw [show bitI false = 0 from rfl]
      go_wp2_with fail
      go_ret
      obtain ⟨e1, e2⟩ := HRE.out
      subst e1 e2
      exact ⟨⟨rfl, X2, HMx2.out, HOx2.out.1, HOx2.out.2⟩, by rw [← HQ.out]; exact ⟨by omega, io.le HOK2.out (by omega)⟩⟩
    | true =>
      have hR := HR2.out
      simp only [Bool.true_eq_false, if_false] at hR
      obtain ⟨⟨D, y3⟩, hy⟩ : ∃ z, io.bitAt (228 + st) (q != 2) y2 = z := ⟨_, rfl⟩
      obtain ⟨h1, ok1⟩ := bit_is io (HMx2.out.drewN 1) hy (at_ := 228) (j := st) (len := 12) (cp := 12) (b := C) (off := 236) rfl (k := k) HOK2.out (Md.seg_head rfl (by omega)) HST.out (by omega) (by omega)
      simp only [hy] at hR
      injection hR with hR1 hR2
      have HRE := Lib.hid (And.intro hR1.symm hR2.symm)
      have H1 := Lib.hid h1
      have HOK3 := Lib.hid ok1
      clear hy hR1 hR2 h1 ok1
      rw [show bitI true = 1 from rfl]
      have hdr := HMx2.out.mod.cells.2.2.2.1
      go_upto_region 1 with fail
      refine wp_region_held_drew (S := fun w2 => w2.cell? ⟨C, 3, none⟩ = some (.int .i64 (st : Nat))) (by kernel_rfl) hdr (fun hS => ?_)
      refine tk 0 (v := ?vwc27) ?ywc27 hS ?_
      case ywc27 =>
        intro w hSw
        go_simp; all_goals (with_reducible rfl)
      simp only [Act.put, List.setIfInBounds_toArray, List.set_cons_zero, List.set_cons_succ]
      refine tk 1 (v := ?vwc28) ?ywc28 hS ?_
      case ywc28 =>
        intro w hSw
        go_simp; all_goals (with_reducible rfl)
      simp only [Act.put, List.setIfInBounds_toArray, List.set_cons_zero, List.set_cons_succ]
      refine tk 2 (v := ?vwc29) ?ywc29 hS ?_
      case ywc29 =>
        intro w hSw
        go_simp; all_goals (with_reducible rfl)
      simp only [Act.put, List.setIfInBounds_toArray, List.set_cons_zero, List.set_cons_succ]
      refine tk 3 (v := ?vwc30) ?ywc30 hS ?_
      case ywc30 =>
        intro w hSw
        go_simp; all_goals (with_reducible rfl)
      simp only [Act.put, List.setIfInBounds_toArray, List.set_cons_zero, List.set_cons_succ]
      refine tk 4 (v := ?vwc31) ?ywc31 hS ?_
      case ywc31 =>
        intro w hSw
        go_simp; all_goals (with_reducible rfl)
      simp only [Act.put, List.setIfInBounds_toArray, List.set_cons_zero, List.set_cons_succ]
      refine tk 5 (v := ?vwc32) ?ywc32 hS ?_
      case ywc32 =>
        intro w hSw
        go_simp; all_goals (with_reducible rfl)
      simp only [Act.put, List.setIfInBounds_toArray, List.set_cons_zero, List.set_cons_succ]
      refine tk 6 (v := ?vwc33) ?ywc33 hS ?_
      case ywc33 =>
        intro w hSw
        go_simp; all_goals (with_reducible rfl)
      simp only [Act.put, List.setIfInBounds_toArray, List.set_cons_zero, List.set_cons_succ]
      refine tk 7 (v := ?vwc34) ?ywc34 hS ?_
      case ywc34 =>
        intro w hSw
        go_simp; all_goals (with_reducible rfl)
      simp only [Act.put, List.setIfInBounds_toArray, List.set_cons_zero, List.set_cons_succ]
      refine tk 8 (v := ?vwc35) ?ywc35 hS ?_
      case ywc35 =>
        intro w hSw
        have q1 := hSw
        go_simp; all_goals (with_reducible rfl)
      simp only [Act.put, List.setIfInBounds_toArray, List.set_cons_zero, List.set_cons_succ]
      refine tk 9 (v := ?vwc36) ?ywc36 hS ?_
      case ywc36 =>
        intro w hSw
        go_simp; all_goals (with_reducible rfl)
      simp only [Act.put, List.setIfInBounds_toArray, List.set_cons_zero, List.set_cons_succ]
      refine tk 10 (v := ?vwc37) ?ywc37 hS ?_
      case ywc37 =>
        intro w hSw
        go_simp; all_goals (with_reducible rfl)
      simp only [Act.put, List.setIfInBounds_toArray, List.set_cons_zero, List.set_cons_succ]
      refine wpAnyH_ready (rs := [11]) (by kernel_rfl) (by simp) ?_
      refine (AllReadyH.cons (o := { dst := some 18, op := Op.call { callee := Callee.value (Operand.func 88), args := #[Operand.tmp 7, Operand.tmp 11, Operand.tmp 15, Operand.tmp 17], argTypes := #[163, 92, 3, 4] }, type := 3, pos := "model.go:171", after := #[{ on := 0, ground := Ground.data }, { on := 4, ground := Ground.data }, { on := 8, ground := Ground.data }, { on := 10, ground := Ground.data }], guard := none }) rfl (fun K hK => ?_) AllReadyH.nil)
      go_simp
      refine H1.out.mono ?_
      rintro e x3 ⟨rfl, hwx3⟩
      obtain ⟨X3, hMx3, honx3, hXx3⟩ := went_trans_undrew HOx2.out hwx3
      have HMx3 := Lib.hid hMx3
      have HOx3 := Lib.hid (And.intro honx3 hXx3)
      have gx3 := hMx3.mod.cells.2.2.2.1
      clear hMx3 honx3 hXx3 hwx3
      go_wp2_with fail
      refine hK.out _ _ gx3 (fun _ => ?_)
      clear hK K
      refine tk 12 (v := ?vwc38) ?ywc38 gx3 ?_
      case ywc38 =>
        intro w hSw
        go_simp; all_goals (with_reducible rfl)
      simp only [Act.put, List.setIfInBounds_toArray, List.set_cons_zero, List.set_cons_succ]
      refine tk 13 (v := ?vwc39) ?ywc39 gx3 ?_
      case ywc39 =>
        intro w hSw
        go_simp; all_goals (with_reducible rfl)
      simp only [Act.put, List.setIfInBounds_toArray, List.set_cons_zero, List.set_cons_succ]
      refine wpAnyH_done (by kernel_rfl) ?_ _

      clear hS hdr H1
      have hB : bitI D = (D.toNat : Int) := by cases D <;> rfl
      have hBl : D.toNat ≤ 1 := by cases D <;> decide
      go_wp2_with fail
      go_ret
      obtain ⟨e1, e2⟩ := HRE.out
      subst e1 e2
      refine ⟨⟨?_, X3, HMx3.out, HOx3.out.1, HOx3.out.2⟩, by rw [← HQ.out]; exact ⟨by omega, HOK3.out⟩⟩
      refine congrArg (fun n : Int => Ending.returned (Value.int .i64 n)) ?_
      simp only [hB, IntKind.wrap_i64]
      omega
end Go.Proofs.Ytkckjjchfccdjaa
