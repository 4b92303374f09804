/- The model's match. -/
import Derived.Test.YtklkboplkobhgaaGreatMdFront
import Derived.Test.YtklkboplkobhgaaGreatMdSlotD
import Derived.Test.YtklkboplkobhgaaGreatMdCtx
namespace Go.Proofs.YtklkboplkobhgaaGreat
set_option maxRecDepth 100000
open Go.RowKit

theorem sy_boxes {w W1 : World} {v0 v1 v2 v3 v4 : Value} (h : (w.alloc (.cells #[v0, v1, v2, v3, v4] 96)).alloc (.cells #[.int .i64 0, .int .u8 0, .int .i64 0, .int .i64 0, .int .i64 0] 96) = W1) :
    (W1.cell? ⟨w.heap.size, 0, none⟩ = some v0 ∧ W1.cell? ⟨w.heap.size, 1, none⟩ = some v1 ∧ W1.cell? ⟨w.heap.size, 2, none⟩ = some v2 ∧ W1.cell? ⟨w.heap.size, 3, none⟩ = some v3 ∧ W1.cell? ⟨w.heap.size, 4, none⟩ = some v4) ∧
    W1.heap[w.heap.size + 1]? = some (.cells [Value.int .i64 0, .int .u8 0, .int .i64 0, .int .i64 0, .int .i64 0].toArray 96 (0, 0)) := by
  have h0 : W1.heap[w.heap.size]? = some (.cells [v0, v1, v2, v3, v4].toArray 96 (0, 0)) := by
    rw [← h]; exact (Below.heap_alloc _ _ _ (by simp)).trans (heap_alloc_last w _)
  have h1 : W1.heap[w.heap.size + 1]? = some (.cells [Value.int .i64 0, .int .u8 0, .int .i64 0, .int .i64 0, .int .i64 0].toArray 96 (0, 0)) := by
    rw [← h]
    have h := heap_alloc_last (w.alloc (.cells #[v0, v1, v2, v3, v4] 96)) (.cells #[.int .i64 0, .int .u8 0, .int .i64 0, .int .i64 0, .int .i64 0] 96)
    simpa using h
  refine ⟨⟨?_, ?_, ?_, ?_, ?_⟩, h1⟩ <;> (rw [cell_of_row W1 _ _ _ _ _ h0]; rfl)
theorem went_undrew {io : Io} {C L lc lp pb st : Nat} {r : R4} {x : io.S} {X : List Nat} {w w' : World} {n : Nat} (h : Went io C L lc lp pb st r x X (w.drewN n) w') : Went io C L lc lp pb st r x X w w' := by
  obtain ⟨X', hM, hon, hX⟩ := h
  exact ⟨X', hM, Only.undrewN hon, hX⟩
theorem MS.front {io : Io} {w w' : World} {C L lc lp pb st : Nat} {r r' : R4} {x : io.S} {X : List Nat} (h : MS io w C L lc lp pb st r x X) (hm : ModAt w' C L lc lp pb st r' x.1) (ho : Only [C] w w') : MS io w' C L lc lp pb st r' x X :=
  ⟨hm, io.keep h.io ho.size (fun i hi => ho.block i (io.lt h.io i hi) (fun e => h.outC (by simp at e; rw [← e]; exact hi))), h.outC, h.outL⟩
set_option maxRecDepth 100000 in
set_option maxHeartbeats 2000000 in
theorem match_is (io : Io) {C L lc lp pb st : Nat} {r : R4} {x : io.S} {X : List Nat} {w : World} (hM : MS io w C L lc lp pb st r x X) {p k : Nat} (hp : p < 16) (kk : Int) (b : UInt8) (l d q : Int) (hl0 : 0 ≤ l) (hl1 : l ≤ 300) (hd0 : 0 ≤ d) (hd1 : d ≤ 4294967295)
    {n dd : Nat} {y Z : io.S} (hR1 : Md.len io 432 p l x = (n, y)) (hR2 : Md.dist io n d y = (dd, Z)) (hok : io.ok x.2 (k + 52)) :
    Calls Tryz.prog 77 #[PF C, io.v, .int .i64 (p : Nat), SyV kk b l d q] w (MAnd (2 ≤ n ∧ n ≤ 273 ∧ 1 ≤ dd ∧ dd ≤ 4294967296 ∧ io.ok Z.2 k) (MDone (SyV 1 0 (n : Nat) (dd : Nat) 0) io C L lc lp pb (if st < 7 then 7 else 10) (frontR r 3 (dd : Nat)) Z X w)) := by
  obtain ⟨ls, hls⟩ : ∃ ls, (if st < 7 then 7 else 10) = ls := ⟨_, rfl⟩
  rw [hls]
  have HLSS := Lib.hid hls
  obtain ⟨r', hr'⟩ : ∃ r', frontR r 3 (dd : Nat) = r' := ⟨_, rfl⟩
  rw [hr']
  have HR' := Lib.hid hr'
  obtain ⟨Q, hQ⟩ : ∃ Q, (2 ≤ n ∧ n ≤ 273 ∧ 1 ≤ dd ∧ dd ≤ 4294967296 ∧ io.ok Z.2 k) = Q := ⟨_, rfl⟩
  rw [hQ]
  have HQ := Lib.hid hQ
  clear hls hr' hQ
  have HOUT : Hid (∀ i ∈ C :: L :: X, i < w.heap.size) := Lib.hid (by
    intro i hi
    simp only [List.mem_cons] at hi
    rcases hi with rfl | rfl | hi
    · exact hM.mod.clt
    · exact hM.mod.llt
    · exact io.lt hM.io i hi)
  obtain ⟨bs, hbs⟩ : ∃ bs, w.heap.size + 1 = bs := ⟨_, rfl⟩
  have HBS := Lib.hid hbs
  clear hbs
  obtain ⟨W1, hW1⟩ : ∃ W1, (w.alloc (.cells #[.int .i64 kk, .int .u8 (b.toNat : Nat), .int .i64 l, .int .i64 d, .int .i64 q] 96)).alloc (.cells #[.int .i64 0, .int .u8 0, .int .i64 0, .int .i64 0, .int .i64 0] 96) = W1 := ⟨_, rfl⟩
  have hb1 : Below w.heap.size w W1 := by rw [← hW1]; exact ((Below.refl _ _).alloc (Nat.le_refl _) _).alloc (by simp) _
  have hM1 := hM.below hb1
  obtain ⟨hsy, hrs⟩ := sy_boxes hW1
  rw [HBS.out] at hrs
  have HW1 := Lib.hid hW1
  have HM1 := Lib.hid hM1
  have HSY := Lib.hid hsy
  have HRS := Lib.hid hrs
  have HB1 := Lib.hid hb1
  have ne1 : C ≠ bs := fun e => by have := HOUT.out C (by simp); have := HBS.out; omega
  have ne2 : bs ≠ C := fun e => ne1 e.symm
  have hbo : Hid (w.heap.size ∉ C :: L :: X ∧ bs ∉ C :: L :: X) := Lib.hid ⟨fun h => by have := HOUT.out _ h; omega, fun h => by have := HOUT.out _ h; have := HBS.out; omega⟩
  clear hW1 hM1 hsy hrs hb1 hM
  have HLEN := Lib.hid (len_is io (HM1.out.drewN 1) hR1 (k := k + 42) hok (.inl rfl) hp hl0 hl1)
  have HR2 := Lib.hid hR2
  have hpi : (p : Int) < 16 := by omega
  have hdr := HSY.out.2.2.1
  clear hR1 hR2 hok
  go_enter Tryz.func77, Tryz.ntmps77
  go_upto_region 1 with fail
  rw [HW1.out, HBS.out]
  refine wp_region_held_drew (S := fun w2 => w2.cell? ⟨w.heap.size, 2, none⟩ = some (.int .i64 l)) (by kernel_rfl) hdr (fun hS => ?_)
  refine wpAnyH_take (i := 0) (oi := { dst := some 11, op := Op.move (Operand.tmp 0), type := 39, pos := "model.go:145", after := #[], guard := none }) (v := ?vma1) rfl (by kernel_rfl) (by kernel_rfl) (by kernel_rfl) (fun _ _ _ h => h) (Or.inl ⟨by rfl, ?yma1⟩) hS ?_
  case yma1 =>
    intro w hSw
    go_simp; all_goals (with_reducible rfl)
  simp only [Act.put, List.setIfInBounds_toArray, List.set_cons_zero, List.set_cons_succ]
  refine wpAnyH_take (i := 1) (oi := { dst := some 12, op := Op.nilCheck (Operand.tmp 11), type := 0, pos := "model.go:145", after := #[{ on := 0, ground := Ground.data }], guard := none }) (v := ?vma2) rfl (by kernel_rfl) (by kernel_rfl) (by kernel_rfl) (fun _ _ _ h => h) (Or.inl ⟨by rfl, ?yma2⟩) hS ?_
  case yma2 =>
    intro w hSw
    go_simp; all_goals (with_reducible rfl)
  simp only [Act.put, List.setIfInBounds_toArray, List.set_cons_zero, List.set_cons_succ]
  refine wpAnyH_take (i := 2) (oi := { dst := some 13, op := Op.fieldAddr 83 (Operand.tmp 12) 12, type := 0, pos := "model.go:145", after := #[{ on := 1, ground := Ground.data }], guard := none }) (v := ?vma3) rfl (by kernel_rfl) (by kernel_rfl) (by kernel_rfl) (fun _ _ _ h => h) (Or.inl ⟨by rfl, ?yma3⟩) hS ?_
  case yma3 =>
    intro w hSw
    go_simp; all_goals (with_reducible rfl)
  simp only [Act.put, List.setIfInBounds_toArray, List.set_cons_zero, List.set_cons_succ]
  refine wpAnyH_take (i := 3) (oi := { dst := some 14, op := Op.move (Operand.tmp 1), type := 142, pos := "model.go:145", after := #[], guard := none }) (v := ?vma4) rfl (by kernel_rfl) (by kernel_rfl) (by kernel_rfl) (fun _ _ _ h => h) (Or.inl ⟨by rfl, ?yma4⟩) hS ?_
  case yma4 =>
    intro w hSw
    go_simp; all_goals (with_reducible rfl)
  simp only [Act.put, List.setIfInBounds_toArray, List.set_cons_zero, List.set_cons_succ]
  refine wpAnyH_take (i := 4) (oi := { dst := some 15, op := Op.move (Operand.tmp 2), type := 3, pos := "model.go:145", after := #[], guard := none }) (v := ?vma5) rfl (by kernel_rfl) (by kernel_rfl) (by kernel_rfl) (fun _ _ _ h => h) (Or.inl ⟨by rfl, ?yma5⟩) hS ?_
  case yma5 =>
    intro w hSw
    go_simp; all_goals (with_reducible rfl)
  simp only [Act.put, List.setIfInBounds_toArray, List.set_cons_zero, List.set_cons_succ]
  refine wpAnyH_take (i := 5) (oi := { dst := some 16, op := Op.fieldAddr 96 (Operand.tmp 7) 2, type := 0, pos := "model.go:145", after := #[], guard := none }) (v := ?vma6) rfl (by kernel_rfl) (by kernel_rfl) (by kernel_rfl) (fun _ _ _ h => h) (Or.inl ⟨by rfl, ?yma6⟩) hS ?_
  case yma6 =>
    intro w hSw
    go_simp; all_goals (with_reducible rfl)
  simp only [Act.put, List.setIfInBounds_toArray, List.set_cons_zero, List.set_cons_succ]
  refine wpAnyH_take (i := 6) (oi := { dst := some 17, op := Op.load 3 (Operand.tmp 16), type := 3, pos := "model.go:145", after := #[{ on := 5, ground := Ground.data }], guard := none }) (v := ?vma7) rfl (by kernel_rfl) (by kernel_rfl) (by kernel_rfl) (fun _ _ _ h => h) (Or.inl ⟨by rfl, ?yma7⟩) hS ?_
  case yma7 =>
    intro w hSw
    have q1 := hSw
    go_simp; all_goals (with_reducible rfl)
  simp only [Act.put, List.setIfInBounds_toArray, List.set_cons_zero, List.set_cons_succ]
  refine wpAnyH_ready (rs := [7]) (by kernel_rfl) (by simp) ?_
  refine (AllReadyH.cons (o := { dst := some 18, op := Op.call { callee := Callee.value (Operand.func 90), args := #[Operand.tmp 13, Operand.tmp 14, Operand.tmp 15, Operand.tmp 17], argTypes := #[75, 142, 3, 3] }, type := 3, pos := "model.go:145", after := #[{ on := 2, ground := Ground.data }, { on := 3, ground := Ground.data }, { on := 4, ground := Ground.data }, { on := 6, ground := Ground.data }], guard := none }) rfl (fun K hK => ?_) AllReadyH.nil)
  go_simp
  refine HLEN.out.mono ?_
  rintro e x4 ⟨⟨rfl, hw4⟩, hn1, hn2, ok4⟩
  obtain ⟨X4, hM4, hon4, hX4⟩ := (show Went io C L lc lp pb st r y X W1 x4 from went_undrew hw4)
  have HON4 := Lib.hid hon4
  have g4 := cell_only HON4.out hbo.out.1 HSY.out.2.2.1
  have HM4 := Lib.hid hM4
  have HX4 := Lib.hid hX4
  have HOK4 := Lib.hid ok4
  have HN4 := Lib.hid (And.intro hn1 hn2)
  have hn4i : (n : Int) ≤ 273 := by omega
  clear hM4 hon4 hX4 ok4 hn1 hn2
  go_wp2_with fail
  refine hK.out _ _ g4 (fun _ => ?_)
  clear hK K
  refine wpAnyH_take (i := 8) (oi := { dst := some 9, op := Op.assign (Operand.tmp 18), type := 3, pos := "model.go:145", after := #[{ on := 7, ground := Ground.data }, { on := 7, ground := Ground.chain }, { on := 0, ground := Ground.phase }, { on := 1, ground := Ground.phase }, { on := 2, ground := Ground.phase }, { on := 3, ground := Ground.phase }, { on := 4, ground := Ground.phase }, { on := 5, ground := Ground.phase }, { on := 6, ground := Ground.phase }, { on := 7, ground := Ground.phase }], guard := none }) (v := ?vma8) rfl (by kernel_rfl) (by kernel_rfl) (by kernel_rfl) (fun _ _ _ h => h) (Or.inl ⟨by rfl, ?yma8⟩) g4 ?_
  case yma8 =>
    intro w hSw
    go_simp; all_goals (with_reducible rfl)
  simp only [Act.put, List.setIfInBounds_toArray, List.set_cons_zero, List.set_cons_succ]
  refine wpAnyH_done (by kernel_rfl) ?_ _

  have g4' := cell_only HON4.out hbo.out.1 HSY.out.2.2.2.1
  clear hS g4 hdr HLEN
  have HDIS := Lib.hid (dist_is io (HM4.out.drewN 1) HR2.out HOK4.out HN4.out.1 (by have := HN4.out; omega) hd0 hd1)
  have hdr := g4'
  have HX4' := HX4
  go_upto_region 2 with fail
  refine wp_region_held_drew (S := fun w2 => w2.cell? ⟨w.heap.size, 3, none⟩ = some (.int .i64 d)) (by kernel_rfl) hdr (fun hS => ?_)
  refine wpAnyH_take (i := 0) (oi := { dst := some 19, op := Op.move (Operand.tmp 0), type := 39, pos := "model.go:146", after := #[], guard := none }) (v := ?vmb9) rfl (by kernel_rfl) (by kernel_rfl) (by kernel_rfl) (fun _ _ _ h => h) (Or.inl ⟨by rfl, ?ymb9⟩) hS ?_
  case ymb9 =>
    intro w hSw
    go_simp; all_goals (with_reducible rfl)
  simp only [Act.put, List.setIfInBounds_toArray, List.set_cons_zero, List.set_cons_succ]
  refine wpAnyH_take (i := 1) (oi := { dst := some 20, op := Op.nilCheck (Operand.tmp 19), type := 0, pos := "model.go:146", after := #[{ on := 0, ground := Ground.data }], guard := none }) (v := ?vmb10) rfl (by kernel_rfl) (by kernel_rfl) (by kernel_rfl) (fun _ _ _ h => h) (Or.inl ⟨by rfl, ?ymb10⟩) hS ?_
  case ymb10 =>
    intro w hSw
    go_simp; all_goals (with_reducible rfl)
  simp only [Act.put, List.setIfInBounds_toArray, List.set_cons_zero, List.set_cons_succ]
  refine wpAnyH_take (i := 2) (oi := { dst := some 21, op := Op.fieldAddr 83 (Operand.tmp 20) 14, type := 0, pos := "model.go:146", after := #[{ on := 1, ground := Ground.data }], guard := none }) (v := ?vmb11) rfl (by kernel_rfl) (by kernel_rfl) (by kernel_rfl) (fun _ _ _ h => h) (Or.inl ⟨by rfl, ?ymb11⟩) hS ?_
  case ymb11 =>
    intro w hSw
    go_simp; all_goals (with_reducible rfl)
  simp only [Act.put, List.setIfInBounds_toArray, List.set_cons_zero, List.set_cons_succ]
  refine wpAnyH_take (i := 3) (oi := { dst := some 22, op := Op.move (Operand.tmp 1), type := 142, pos := "model.go:146", after := #[], guard := none }) (v := ?vmb12) rfl (by kernel_rfl) (by kernel_rfl) (by kernel_rfl) (fun _ _ _ h => h) (Or.inl ⟨by rfl, ?ymb12⟩) hS ?_
  case ymb12 =>
    intro w hSw
    go_simp; all_goals (with_reducible rfl)
  simp only [Act.put, List.setIfInBounds_toArray, List.set_cons_zero, List.set_cons_succ]
  refine wpAnyH_take (i := 4) (oi := { dst := some 23, op := Op.move (Operand.tmp 9), type := 3, pos := "model.go:146", after := #[], guard := none }) (v := ?vmb13) rfl (by kernel_rfl) (by kernel_rfl) (by kernel_rfl) (fun _ _ _ h => h) (Or.inl ⟨by rfl, ?ymb13⟩) hS ?_
  case ymb13 =>
    intro w hSw
    go_simp; all_goals (with_reducible rfl)
  simp only [Act.put, List.setIfInBounds_toArray, List.set_cons_zero, List.set_cons_succ]
  refine wpAnyH_take (i := 5) (oi := { dst := some 24, op := Op.fieldAddr 96 (Operand.tmp 7) 3, type := 0, pos := "model.go:146", after := #[], guard := none }) (v := ?vmb14) rfl (by kernel_rfl) (by kernel_rfl) (by kernel_rfl) (fun _ _ _ h => h) (Or.inl ⟨by rfl, ?ymb14⟩) hS ?_
  case ymb14 =>
    intro w hSw
    go_simp; all_goals (with_reducible rfl)
  simp only [Act.put, List.setIfInBounds_toArray, List.set_cons_zero, List.set_cons_succ]
  refine wpAnyH_take (i := 6) (oi := { dst := some 25, op := Op.load 3 (Operand.tmp 24), type := 3, pos := "model.go:146", after := #[{ on := 5, ground := Ground.data }], guard := none }) (v := ?vmb15) rfl (by kernel_rfl) (by kernel_rfl) (by kernel_rfl) (fun _ _ _ h => h) (Or.inl ⟨by rfl, ?ymb15⟩) hS ?_
  case ymb15 =>
    intro w hSw
    have q1 := hSw
    go_simp; all_goals (with_reducible rfl)
  simp only [Act.put, List.setIfInBounds_toArray, List.set_cons_zero, List.set_cons_succ]
  refine wpAnyH_ready (rs := [7]) (by kernel_rfl) (by simp) ?_
  refine (AllReadyH.cons (o := { dst := some 26, op := Op.call { callee := Callee.value (Operand.func 91), args := #[Operand.tmp 21, Operand.tmp 22, Operand.tmp 23, Operand.tmp 25], argTypes := #[81, 142, 3, 3] }, type := 3, pos := "model.go:146", after := #[{ on := 2, ground := Ground.data }, { on := 3, ground := Ground.data }, { on := 4, ground := Ground.data }, { on := 6, ground := Ground.data }], guard := none }) rfl (fun K hK => ?_) AllReadyH.nil)
  go_simp
  refine HDIS.out.mono ?_
  rintro e x5 ⟨⟨rfl, hw5⟩, hd1, hd2, ok5⟩
  obtain ⟨X5, hM5, hon5, hX5⟩ := Went.trans HON4.out HX4.out (show Went io C L lc lp pb st r Z X4 x4 x5 from went_undrew hw5)
  have HON5 := Lib.hid hon5
  have g5 := cell_only HON5.out hbo.out.1 HSY.out.2.2.2.1
  have HM5 := Lib.hid hM5
  have HX5 := Lib.hid hX5
  have HOK5 := Lib.hid ok5
  have HD5 := Lib.hid (And.intro hd1 hd2)
  clear hM5 hon5 hX5 ok5 hd1 hd2 hw5
  go_wp2_with fail
  refine hK.out _ _ g5 (fun _ => ?_)
  clear hK K
  refine wpAnyH_take (i := 8) (oi := { dst := some 10, op := Op.assign (Operand.tmp 26), type := 3, pos := "model.go:146", after := #[{ on := 7, ground := Ground.data }, { on := 7, ground := Ground.chain }, { on := 0, ground := Ground.phase }, { on := 1, ground := Ground.phase }, { on := 2, ground := Ground.phase }, { on := 3, ground := Ground.phase }, { on := 4, ground := Ground.phase }, { on := 5, ground := Ground.phase }, { on := 6, ground := Ground.phase }, { on := 7, ground := Ground.phase }], guard := none }) (v := ?vmb16) rfl (by kernel_rfl) (by kernel_rfl) (by kernel_rfl) (fun _ _ _ h => h) (Or.inl ⟨by rfl, ?ymb16⟩) g5 ?_
  case ymb16 =>
    intro w hSw
    go_simp; all_goals (with_reducible rfl)
  simp only [Act.put, List.setIfInBounds_toArray, List.set_cons_zero, List.set_cons_succ]
  refine wpAnyH_done (by kernel_rfl) ?_ _

  clear hS g5 hdr HDIS g4'
  have HFR := Lib.hid (front_any HM5.out.mod 3 (by omega) (dd : Nat))
  rw [HR'.out] at HFR
  have HNX : Hid (∀ i ∈ X5, i ∈ X ∨ W1.heap.size ≤ i) := HX5
  go_wp2_with fail
  refine HFR.out.mono ?_
  rintro e x6 ⟨rfl, hm6, ho6⟩
  have hM6 := HM5.out.front hm6 ho6
  have hon6 : Only (C :: L :: X) W1 x6 := HON5.out.trans ho6 (fun i hi => .inl (by simp at hi; simp [hi]))
  have HM6 := Lib.hid hM6
  have HON := Lib.hid hon6
  obtain ⟨_, _, _, c3, _⟩ := hM6.mod.cells
  have f3 := hM6.mod.frozenC 3
  have hAF := after2_any st 7 10 x6
  rw [HLSS.out] at hAF
  have HAF := Lib.hid hAF
  have hrs := (HON.out.block bs (by have := (Array.getElem?_eq_some_iff.1 HRS.out).1; exact this) hbo.out.2).trans HRS.out
  have z0 : x6.cell? ⟨bs, 0, none⟩ = some (.int .i64 0) := by rw [cell_of_row x6 _ _ _ _ _ hrs]; rfl
  have z1 : x6.cell? ⟨bs, 1, none⟩ = some (.int .u8 0) := by rw [cell_of_row x6 _ _ _ _ _ hrs]; rfl
  have z2 : x6.cell? ⟨bs, 2, none⟩ = some (.int .i64 0) := by rw [cell_of_row x6 _ _ _ _ _ hrs]; rfl
  have z3 : x6.cell? ⟨bs, 3, none⟩ = some (.int .i64 0) := by rw [cell_of_row x6 _ _ _ _ _ hrs]; rfl
  have z4 : x6.cell? ⟨bs, 4, none⟩ = some (.int .i64 0) := by rw [cell_of_row x6 _ _ _ _ _ hrs]; rfl
  have zf : ∀ i, x6.frozen? ⟨bs, i, none⟩ = false := fun i => frozen_of_row _ _ _ _ _ hrs
  have zf0 := zf 0
  have zf1 := zf 1
  have zf2 := zf 2
  have zf3 := zf 3
  have zf4 := zf 4
  clear hrs zf
  clear hm6 ho6 hM6 hon6 hAF HFR
  go_wp2_with fail
  refine HAF.out.mono ?_
  rintro e x7 ⟨rfl, rfl⟩
  go_wp2_with fail
  refine bodyPost_ret (v := SyV 1 0 (n : Nat) (dd : Nat) 0) (by simp [results, Tryz.results77, go_sem, z0, z1, z2, z3, z4]) rfl ⟨⟨rfl, X5, ?_, ?_, ?_⟩, by rw [← HQ.out]; exact ⟨HN4.out.1, HN4.out.2, HD5.out.1, HD5.out.2, HOK5.out⟩⟩
  · have hbX : bs ∉ C :: L :: X5 := fun h => by
      simp only [List.mem_cons] at h
      rcases h with h | h | h
      · exact ne2 h
      · have := HOUT.out L (by simp); have := HBS.out; omega
      · rcases HNX.out _ h with h | h
        · have := HOUT.out bs (by simp [h]); have := HBS.out; omega
        · have := (Array.getElem?_eq_some_iff.1 HRS.out).1; omega
    exact (((((HM6.out.setHead (k := 3) (st' := ls) (r' := r') (by decide) rfl).setFar hbX _).setFar hbX _).setFar hbX _).setFar hbX _).setFar hbX _
  · have h0 : Only (C :: L :: X) w x6 := (Only.of_below HB1.out).trans HON.out (fun i hi => .inl hi)
    have hn : bs ∈ C :: L :: X ∨ w.heap.size ≤ bs := .inr (by have := HBS.out; omega)
    exact (((((h0.setCell (p := ⟨C, 3, none⟩) (.inl (by simp)) _).setCell (p := ⟨bs, 0, none⟩) hn _).setCell (p := ⟨bs, 1, none⟩) hn _).setCell (p := ⟨bs, 2, none⟩) hn _).setCell (p := ⟨bs, 3, none⟩) hn _).setCell (p := ⟨bs, 4, none⟩) hn _
  · intro i hi
    rcases HNX.out i hi with h | h
    · exact .inl h
    · exact .inr (Nat.le_trans HB1.out.size h)
end Go.Proofs.YtklkboplkobhgaaGreat
