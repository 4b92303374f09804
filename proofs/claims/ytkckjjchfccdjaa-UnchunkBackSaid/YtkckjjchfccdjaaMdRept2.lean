/- The model's repeat, whole. -/
import Derived.Test.YtkckjjchfccdjaaMg1
import Derived.Test.YtkckjjchfccdjaaMg10
namespace Go.Proofs.Ytkckjjchfccdjaa
set_option maxRecDepth 100000
open Go.RowKit

set_option maxRecDepth 100000 in
set_option maxHeartbeats 4000000 in
theorem rept_is (io : Io) {C L lc lp pb st : Nat} {r : R4} {x : io.S} {X : List Nat} {w : World} (hM : MS io w C L lc lp pb st r x X) (hst : st < 12) {p k : Nat} (hp : p < 16) (kk : Int) (b : UInt8) (l d q : Int) (hl0 : 0 ≤ l) (hl1 : l ≤ 300)
    {wh n : Nat} {Z : io.S} (hR : Md.rept io st p l q x = ((wh, n), Z)) (hok : io.ok x.2 (k + 14)) :
    Calls Try.prog 91 #[PF C, io.v, .int .i64 (p : Nat), SyV kk b l d q] w (MAnd (wh ≤ 3 ∧ 1 ≤ n ∧ n ≤ 273 ∧ (n = 1 → wh = 0) ∧ io.ok Z.2 k) (MDone (SyV 2 0 (n : Nat) 0 (wh : Nat)) io C L lc lp pb (if st < 7 then (if n = 1 then 9 else 8) else 11) (frontR r wh (r4 r.1 r.2.1 r.2.2.1 r.2.2.2 wh)) Z X w)) := by
  obtain ⟨ls, hls⟩ : ∃ ls, (if st < 7 then (if n = 1 then 9 else 8) else 11) = ls := ⟨_, rfl⟩
  rw [hls]
  have HLSS := Lib.hid hls
  obtain ⟨r', hr'⟩ : ∃ r', frontR r wh (r4 r.1 r.2.1 r.2.2.1 r.2.2.2 wh) = r' := ⟨_, rfl⟩
  rw [hr']
  have HR' := Lib.hid hr'
  obtain ⟨Q, hQ⟩ : ∃ Q, (wh ≤ 3 ∧ 1 ≤ n ∧ n ≤ 273 ∧ (n = 1 → wh = 0) ∧ io.ok Z.2 k) = Q := ⟨_, rfl⟩
  rw [hQ]
  have HQ := Lib.hid hQ
  clear hls hr' hQ
  have HOUT : Hid (∀ i ∈ C :: L :: X, i < w.heap.size) := Lib.hid (by
    intro i hi
    simp only [List.mem_cons] at hi
    rcases hi with rfl | rfl | hi
    · exact hM.mod.clt
    · exact hM.mod.llt
    · exact io.lt hM.io i hi)
  obtain ⟨bs, hbs⟩ : ∃ bs, w.heap.size + 1 = bs := ⟨_, rfl⟩
  have HBS := Lib.hid hbs
  clear hbs
  obtain ⟨W1, hW1⟩ : ∃ W1, (w.alloc (.cells #[.int .i64 kk, .int .u8 (b.toNat : Nat), .int .i64 l, .int .i64 d, .int .i64 q] 99)).alloc (.cells #[.int .i64 0, .int .u8 0, .int .i64 0, .int .i64 0, .int .i64 0] 99) = W1 := ⟨_, rfl⟩
  have hb1 : Below w.heap.size w W1 := by rw [← hW1]; exact ((Below.refl _ _).alloc (Nat.le_refl _) _).alloc (by simp) _
  have hM1 := hM.below hb1
  obtain ⟨hsy, hrs⟩ := sy_boxes hW1
  rw [HBS.out] at hrs
  have HW1 := Lib.hid hW1
  have HM1 := Lib.hid hM1
  have HSY := Lib.hid hsy
  have HRS := Lib.hid hrs
  have HB1 := Lib.hid hb1
  have ne1 : C ≠ bs := fun e => by have := HOUT.out C (by simp); have := HBS.out; omega
  have ne2 : bs ≠ C := fun e => ne1 e.symm
  have hbo : Hid (w.heap.size ∉ C :: L :: X ∧ bs ∉ C :: L :: X) := Lib.hid ⟨fun h => by have := HOUT.out _ h; omega, fun h => by have := HOUT.out _ h; have := HBS.out; omega⟩
  clear hW1 hM1 hsy hrs hb1 hM
  unfold Md.rept at hR
  obtain ⟨⟨v, y⟩, hy⟩ : ∃ z, Md.which io st q x = z := ⟨_, rfl⟩
  simp only [hy] at hR
  have HWH := Lib.hid (which_is io HM1.out hst hy (k := k + 11) hok)
  have hpi : (p : Int) < 16 := by omega
  have hsti : (st : Int) < 12 := by omega
  have hc4 := HSY.out.2.2.2.2
  have HR := Lib.hid hR
  clear hy hR hok
  go_enter Try.func91, Try.ntmps91
  go_upto_region 1 with fail
  rw [HW1.out, HBS.out]
  go_wp2_with fail
  refine HWH.out.mono ?_
  rintro e x4 ⟨⟨rfl, hw4⟩, hv3, ok4⟩
  obtain ⟨X4, hM4, hon4, hX4⟩ := hw4
  have HM4 := Lib.hid hM4
  have HO4 := Lib.hid (And.intro hon4 hX4)
  have HOK4 := Lib.hid ok4
  have hdr := And.intro hM4.mod.cells.2.2.2.1 (cell_only hon4 hbo.out.1 HSY.out.2.2.1)
  clear hM4 hon4 hX4 ok4 HWH hc4
  by_cases hv : v = 0
  · subst hv
    have hR := HR.out
    rw [if_pos rfl] at hR
    obtain ⟨⟨B, y2⟩, hy⟩ : ∃ z, io.bitAt (240 + 16 * st + p) (l != 1) y = z := ⟨_, rfl⟩
    obtain ⟨h1, ok1⟩ := bit_is io (HM4.out.drewN 1) hy (at_ := 240 + 16 * st) (j := p) (len := 16) (cp := 16) (b := C) (off := 248 + st * 16) rfl (k := k + 10) HOK4.out (Md.seg_head (by omega) (by omega)) hp (by omega) (by omega)
    simp only [hy] at hR
    have HCODE := Lib.hid h1
    have HOK5 := Lib.hid ok1
    have HR2 := Lib.hid hR
    clear hy hR h1 ok1
    go_upto_region 2 with fail
    refine wp_region_held_drew (S := fun w2 => w2.cell? ⟨C, 3, none⟩ = some (.int .i64 (st : Nat)) ∧ w2.cell? ⟨w.heap.size, 2, none⟩ = some (.int .i64 l)) (by kernel_rfl) hdr (fun hS => ?_)
    refine tk 0 (v := ?vra40) ?yra40 hS ?_
    case yra40 =>
      intro w hSw
      go_simp; all_goals (with_reducible rfl)
    simp only [Act.put, List.setIfInBounds_toArray, List.set_cons_zero, List.set_cons_succ]
    refine tk 1 (v := ?vra41) ?yra41 hS ?_
    case yra41 =>
      intro w hSw
      go_simp; all_goals (with_reducible rfl)
    simp only [Act.put, List.setIfInBounds_toArray, List.set_cons_zero, List.set_cons_succ]
    refine tk 2 (v := ?vra42) ?yra42 hS ?_
    case yra42 =>
      intro w hSw
      go_simp; all_goals (with_reducible rfl)
    simp only [Act.put, List.setIfInBounds_toArray, List.set_cons_zero, List.set_cons_succ]
    refine tk 3 (v := ?vra43) ?yra43 hS ?_
    case yra43 =>
      intro w hSw
      go_simp; all_goals (with_reducible rfl)
    simp only [Act.put, List.setIfInBounds_toArray, List.set_cons_zero, List.set_cons_succ]
    refine tk 4 (v := ?vra44) ?yra44 hS ?_
    case yra44 =>
      intro w hSw
      go_simp; all_goals (with_reducible rfl)
    simp only [Act.put, List.setIfInBounds_toArray, List.set_cons_zero, List.set_cons_succ]
    refine tk 5 (v := ?vra45) ?yra45 hS ?_
    case yra45 =>
      intro w hSw
      go_simp; all_goals (with_reducible rfl)
    simp only [Act.put, List.setIfInBounds_toArray, List.set_cons_zero, List.set_cons_succ]
    refine tk 6 (v := ?vra46) ?yra46 hS ?_
    case yra46 =>
      intro w hSw
      go_simp; all_goals (with_reducible rfl)
    simp only [Act.put, List.setIfInBounds_toArray, List.set_cons_zero, List.set_cons_succ]
    refine tk 7 (v := ?vra47) ?yra47 hS ?_
    case yra47 =>
      intro w hSw
      go_simp; all_goals (with_reducible rfl)
    simp only [Act.put, List.setIfInBounds_toArray, List.set_cons_zero, List.set_cons_succ]
    refine tk 8 (v := ?vra48) ?yra48 hS ?_
    case yra48 =>
      intro w hSw
      obtain ⟨q1, q2⟩ := hSw
      go_simp; all_goals (with_reducible rfl)
    simp only [Act.put, List.setIfInBounds_toArray, List.set_cons_zero, List.set_cons_succ]
    refine tk 9 (v := ?vra49) ?yra49 hS ?_
    case yra49 =>
      intro w hSw
      go_simp; all_goals (with_reducible rfl)
    simp only [Act.put, List.setIfInBounds_toArray, List.set_cons_zero, List.set_cons_succ]
    refine tk 10 (v := ?vra50) ?yra50 hS ?_
    case yra50 =>
      intro w hSw
      go_simp; all_goals (with_reducible rfl)
    simp only [Act.put, List.setIfInBounds_toArray, List.set_cons_zero, List.set_cons_succ]
    refine tk 11 (v := ?vra51) ?yra51 hS ?_
    case yra51 =>
      intro w hSw
      go_simp; all_goals (with_reducible rfl)
    simp only [Act.put, List.setIfInBounds_toArray, List.set_cons_zero, List.set_cons_succ]
    refine tk 12 (v := ?vra52) ?yra52 hS ?_
    case yra52 =>
      intro w hSw
      go_simp; all_goals (with_reducible rfl)
    simp only [Act.put, List.setIfInBounds_toArray, List.set_cons_zero, List.set_cons_succ]
    refine tk 13 (v := ?vra53) ?yra53 hS ?_
    case yra53 =>
      intro w hSw
      go_simp; all_goals (with_reducible rfl)
    simp only [Act.put, List.setIfInBounds_toArray, List.set_cons_zero, List.set_cons_succ]
    refine tk 14 (v := ?vra54) ?yra54 hS ?_
    case yra54 =>
      intro w hSw
      go_simp; all_goals (with_reducible rfl)
    simp only [Act.put, List.setIfInBounds_toArray, List.set_cons_zero, List.set_cons_succ]
    refine tk 15 (v := ?vra55) ?yra55 hS ?_
    case yra55 =>
      intro w hSw
      obtain ⟨q1, q2⟩ := hSw
      go_simp; all_goals (with_reducible rfl)
    simp only [Act.put, List.setIfInBounds_toArray, List.set_cons_zero, List.set_cons_succ]
    refine tk 16 (v := ?vra56) ?yra56 hS ?_
    case yra56 =>
      intro w hSw
      go_simp; all_goals (with_reducible rfl)
    simp only [Act.put, List.setIfInBounds_toArray, List.set_cons_zero, List.set_cons_succ]
    refine wpAnyH_ready (rs := [17]) (by kernel_rfl) (by simp) ?_
    refine (AllReadyH.cons (o := { dst := some 33, op := Op.call { callee := Callee.value (Operand.func 88), args := #[Operand.tmp 19, Operand.tmp 28, Operand.tmp 29, Operand.tmp 32], argTypes := #[163, 92, 3, 4] }, type := 3, pos := "model.go:154", after := #[{ on := 3, ground := Ground.data }, { on := 12, ground := Ground.data }, { on := 13, ground := Ground.data }, { on := 16, ground := Ground.data }, { on := 2, ground := Ground.chain }, { on := 2, ground := Ground.guard }], guard := some (2, true) }) rfl (fun K hK => ?_) AllReadyH.nil)
    go_simp
    refine HCODE.out.mono ?_
    rintro e x5 ⟨rfl, hw5⟩
    obtain ⟨X5, hM5, hon5, hX5⟩ := went_trans_undrew HO4.out hw5
    have HM5 := Lib.hid hM5
    have HO5 := Lib.hid (And.intro hon5 hX5)
    have g5 := And.intro hM5.mod.cells.2.2.2.1 (cell_only hon5 hbo.out.1 HSY.out.2.2.1)
    clear hM5 hon5 hX5 hw5
    go_wp2_with fail
    refine hK.out _ _ g5 (fun _ => ?_)
    clear hK K
    refine tk 18 (v := ?vra57) ?yra57 g5 ?_
    case yra57 =>
      intro w hSw
      go_simp; all_goals (with_reducible rfl)
    simp only [Act.put, List.setIfInBounds_toArray, List.set_cons_zero, List.set_cons_succ]
    refine tk 19 (v := ?vra58) ?yra58 g5 ?_
    case yra58 =>
      intro w hSw
      go_simp; all_goals (with_reducible rfl)
    simp only [Act.put, List.setIfInBounds_toArray, List.set_cons_zero, List.set_cons_succ]
    refine wpAnyH_done (by kernel_rfl) ?_ _

    clear hS hdr HCODE g5
    cases B with
    | false =>
      have hR := HR2.out
      simp only [if_true] at hR
      injection hR with hR1 hR2
      injection hR1 with hR1 hR3
      have HRE : Hid (wh = 0 ∧ n = 1 ∧ Z = y2) := Lib.hid ⟨hR1.symm, hR3.symm, hR2.symm⟩
      clear hR1 hR2 hR3
      rw [show bitI false = 0 from rfl]
      obtain ⟨_, _, _, c3, _⟩ := HM5.out.mod.cells
      have f3 := HM5.out.mod.frozenC 3
      have hAF := after2_any st 9 11 x5
      rw [show (if st < 7 then 9 else 11) = ls from by rw [← HLSS.out, HRE.out.2.1]; rfl] at hAF
      have HAF := Lib.hid hAF
      have HON : Hid (Only (C :: L :: X) W1 x5) := Lib.hid HO5.out.1
      have HNX : Hid (∀ i ∈ X5, i ∈ X ∨ W1.heap.size ≤ i) := Lib.hid HO5.out.2
      have HRR : Hid (r' = r) := Lib.hid (by rw [← HR'.out, HRE.out.1]; rfl)
      have hrs := (HON.out.block bs (by have := (Array.getElem?_eq_some_iff.1 HRS.out).1; exact this) hbo.out.2).trans HRS.out
      have z0 : x5.cell? ⟨bs, 0, none⟩ = some (.int .i64 0) := by rw [cell_of_row x5 _ _ _ _ _ hrs]; rfl
      have z1 : x5.cell? ⟨bs, 1, none⟩ = some (.int .u8 0) := by rw [cell_of_row x5 _ _ _ _ _ hrs]; rfl
      have z2 : x5.cell? ⟨bs, 2, none⟩ = some (.int .i64 0) := by rw [cell_of_row x5 _ _ _ _ _ hrs]; rfl
      have z3 : x5.cell? ⟨bs, 3, none⟩ = some (.int .i64 0) := by rw [cell_of_row x5 _ _ _ _ _ hrs]; rfl
      have z4 : x5.cell? ⟨bs, 4, none⟩ = some (.int .i64 0) := by rw [cell_of_row x5 _ _ _ _ _ hrs]; rfl
      have zf : ∀ i, x5.frozen? ⟨bs, i, none⟩ = false := fun i => frozen_of_row _ _ _ _ _ hrs
      have zf0 := zf 0
      have zf1 := zf 1
      have zf2 := zf 2
      have zf3 := zf 3
      have zf4 := zf 4
      clear hrs zf
      clear hAF
      go_wp2_with fail
      refine HAF.out.mono ?_
      rintro e x8 ⟨rfl, rfl⟩
      go_wp2_with fail
      rw [HRE.out.2.2, HRR.out]
      refine bodyPost_ret (v := SyV 2 0 (n : Nat) 0 (wh : Nat)) (by simp [results, Try.results91, go_sem, HRE.out.1, HRE.out.2.1, z0, z1, z2, z3, z4]) rfl ⟨⟨rfl, X5, ?_, ?_, ?_⟩, by rw [← HQ.out, HRE.out.2.2]; have := HRE.out; exact ⟨by omega, by omega, by omega, by omega, io.le HOK5.out (by omega)⟩⟩
      · have hbX : bs ∉ C :: L :: X5 := fun h => by
          simp only [List.mem_cons] at h
          rcases h with h | h | h
          · exact ne2 h
          · have := HOUT.out L (by simp); have := HBS.out; omega
          · rcases HNX.out _ h with h | h
            · have := HOUT.out bs (by simp [h]); have := HBS.out; omega
            · have := (Array.getElem?_eq_some_iff.1 HRS.out).1; omega
        exact (((((HM5.out.setHead (k := 3) (st' := ls) (r' := r) (by decide) rfl).setFar hbX _).setFar hbX _).setFar hbX _).setFar hbX _).setFar hbX _
      · have h0 : Only (C :: L :: X) w x5 := (Only.of_below HB1.out).trans HON.out (fun i hi => .inl hi)
        have hn : bs ∈ C :: L :: X ∨ w.heap.size ≤ bs := .inr (by have := HBS.out; omega)
        exact (((((h0.setCell (p := ⟨C, 3, none⟩) (.inl (by simp)) _).setCell (p := ⟨bs, 0, none⟩) hn _).setCell (p := ⟨bs, 1, none⟩) hn _).setCell (p := ⟨bs, 2, none⟩) hn _).setCell (p := ⟨bs, 3, none⟩) hn _).setCell (p := ⟨bs, 4, none⟩) hn _
      · intro i hi
        rcases HNX.out i hi with h | h
        · exact .inl h
        · exact .inr (Nat.le_trans HB1.out.size h)
    | true =>
      have hR := HR2.out
      simp only [Bool.true_eq_false, if_false] at hR
      obtain ⟨⟨n2, z⟩, hz⟩ : ∃ q, Md.len io 946 p l y2 = q := ⟨_, rfl⟩
      simp only [hz] at hR
      injection hR with hR1 hR2
      injection hR1 with hR1 hR3
      subst hR1 hR2 hR3
      have HZ := Lib.hid hz
      clear hz
      rw [show bitI true = 1 from rfl]
      have hdr := cell_only HO5.out.1 hbo.out.1 HSY.out.2.2.1
      have HLEN := Lib.hid (len_is io (HM5.out.drewN 1) HZ.out (k := k) (io.le HOK5.out (by omega)) (.inr rfl) hp hl0 hl1)
      go_upto_region 5 with fail
      refine wp_region_held_drew (S := fun w2 => w2.cell? ⟨w.heap.size, 2, none⟩ = some (.int .i64 l)) (by kernel_rfl) hdr (fun hS => ?_)
      refine tk 0 (v := ?vrt59) ?yrt59 hS ?_
      case yrt59 =>
        intro w hSw
        go_simp; all_goals (with_reducible rfl)
      simp only [Act.put, List.setIfInBounds_toArray, List.set_cons_zero, List.set_cons_succ]
      refine tk 1 (v := ?vrt60) ?yrt60 hS ?_
      case yrt60 =>
        intro w hSw
        go_simp; all_goals (with_reducible rfl)
      simp only [Act.put, List.setIfInBounds_toArray, List.set_cons_zero, List.set_cons_succ]
      refine tk 2 (v := ?vrt61) ?yrt61 hS ?_
      case yrt61 =>
        intro w hSw
        go_simp; all_goals (with_reducible rfl)
      simp only [Act.put, List.setIfInBounds_toArray, List.set_cons_zero, List.set_cons_succ]
      refine tk 3 (v := ?vrt62) ?yrt62 hS ?_
      case yrt62 =>
        intro w hSw
        go_simp; all_goals (with_reducible rfl)
      simp only [Act.put, List.setIfInBounds_toArray, List.set_cons_zero, List.set_cons_succ]
      refine tk 4 (v := ?vrt63) ?yrt63 hS ?_
      case yrt63 =>
        intro w hSw
        go_simp; all_goals (with_reducible rfl)
      simp only [Act.put, List.setIfInBounds_toArray, List.set_cons_zero, List.set_cons_succ]
      refine tk 5 (v := ?vrt64) ?yrt64 hS ?_
      case yrt64 =>
        intro w hSw
        go_simp; all_goals (with_reducible rfl)
      simp only [Act.put, List.setIfInBounds_toArray, List.set_cons_zero, List.set_cons_succ]
      refine tk 6 (v := ?vrt65) ?yrt65 hS ?_
      case yrt65 =>
        intro w hSw
        have q1 := hSw
        go_simp; all_goals (with_reducible rfl)
      simp only [Act.put, List.setIfInBounds_toArray, List.set_cons_zero, List.set_cons_succ]
      refine wpAnyH_ready (rs := [7]) (by kernel_rfl) (by simp) ?_
      refine (AllReadyH.cons (o := { dst := some 52, op := Op.call { callee := Callee.value (Operand.func 100), args := #[Operand.tmp 47, Operand.tmp 48, Operand.tmp 49, Operand.tmp 51], argTypes := #[113, 163, 3, 3] }, type := 3, pos := "model.go:158", after := #[{ on := 2, ground := Ground.data }, { on := 3, ground := Ground.data }, { on := 4, ground := Ground.data }, { on := 6, ground := Ground.data }], guard := none }) rfl (fun K hK => ?_) AllReadyH.nil)
      go_simp
      refine HLEN.out.mono ?_
      rintro e x6 ⟨⟨rfl, hw6⟩, hn1, hn2, ok6⟩
      obtain ⟨X6, hM6, hon6, hX6⟩ := went_trans_undrew HO5.out hw6
      have g6 := cell_only hon6 hbo.out.1 HSY.out.2.2.1
      have HM6 := Lib.hid hM6
      have HO6 := Lib.hid (And.intro hon6 hX6)
      have HOK6 := Lib.hid ok6
      have HN6 := Lib.hid (And.intro hn1 hn2)
      have hn6i : (n2 : Int) ≤ 273 := by omega
      clear hM6 hon6 hX6 ok6 hn1 hn2 hw6
      go_wp2_with fail
      refine hK.out _ _ g6 (fun _ => ?_)
      clear hK K
      refine tk 8 (v := ?vrt66) ?yrt66 g6 ?_
      case yrt66 =>
        intro w hSw
        go_simp; all_goals (with_reducible rfl)
      simp only [Act.put, List.setIfInBounds_toArray, List.set_cons_zero, List.set_cons_succ]
      refine wpAnyH_done (by kernel_rfl) ?_ _
      clear hS hdr HLEN g6
      obtain ⟨_, _, _, _, c4, c5, c6, c7⟩ := HM6.out.mod.cells
      have HFR := Lib.hid (front_any HM6.out.mod 0 (by omega) (r4 r.1 r.2.1 r.2.2.1 r.2.2.2 0))
      rw [HR'.out] at HFR
      have HNX : Hid (∀ i ∈ X6, i ∈ X ∨ W1.heap.size ≤ i) := Lib.hid HO6.out.2
      have hsel : x6.cell? ⟨C, 4 + 0, none⟩ = some (.int .i64 (r4 r.1 r.2.1 r.2.2.1 r.2.2.2 0)) := by
        have h3 : 0 ≤ 3 := by omega
        rcases (by omega : 0 = 0 ∨ 0 = 1 ∨ 0 = 2 ∨ 0 = 3) with h | h | h | h
        · rw [h]; exact c4
        · rw [h]; exact c5
        · rw [h]; exact c6
        · rw [h]; exact c7
      obtain ⟨RQ, hRQ⟩ : ∃ RQ, r4 r.1 r.2.1 r.2.2.1 r.2.2.2 0 = RQ := ⟨_, rfl⟩
      rw [hRQ] at hsel HFR
      clear hRQ c4 c5 c6 c7
      go_wp2_with fail
      refine HFR.out.mono ?_
      rintro e x7 ⟨rfl, hm7, ho7⟩
      have hM7 := HM6.out.front hm7 ho7
      have hon7 : Only (C :: L :: X) W1 x7 := HO6.out.1.trans ho7 (fun i hi => .inl (by simp at hi; simp [hi]))
      have HM7 := Lib.hid hM7
      have HON := Lib.hid hon7
      obtain ⟨_, _, _, c3, _⟩ := hM7.mod.cells
      have f3 := hM7.mod.frozenC 3
      have hAF := after2_any st 8 11 x7
      rw [show (if st < 7 then 8 else 11) = ls from by rw [← HLSS.out]; split; rw [if_neg (by have := HN6.out.1; omega)]; rfl] at hAF
      have HAF := Lib.hid hAF
      have hrs := (HON.out.block bs (by have := (Array.getElem?_eq_some_iff.1 HRS.out).1; exact this) hbo.out.2).trans HRS.out
      have z0 : x7.cell? ⟨bs, 0, none⟩ = some (.int .i64 0) := by rw [cell_of_row x7 _ _ _ _ _ hrs]; rfl
      have z1 : x7.cell? ⟨bs, 1, none⟩ = some (.int .u8 0) := by rw [cell_of_row x7 _ _ _ _ _ hrs]; rfl
      have z2 : x7.cell? ⟨bs, 2, none⟩ = some (.int .i64 0) := by rw [cell_of_row x7 _ _ _ _ _ hrs]; rfl
      have z3 : x7.cell? ⟨bs, 3, none⟩ = some (.int .i64 0) := by rw [cell_of_row x7 _ _ _ _ _ hrs]; rfl
      have z4 : x7.cell? ⟨bs, 4, none⟩ = some (.int .i64 0) := by rw [cell_of_row x7 _ _ _ _ _ hrs]; rfl
      have zf : ∀ i, x7.frozen? ⟨bs, i, none⟩ = false := fun i => frozen_of_row _ _ _ _ _ hrs
      have zf0 := zf 0
      have zf1 := zf 1
      have zf2 := zf 2
      have zf3 := zf 3
      have zf4 := zf 4
      clear hrs zf
      clear hm7 ho7 hM7 hon7 hAF HFR hsel
      go_wp2_with fail
      refine HAF.out.mono ?_
      rintro e x8 ⟨rfl, rfl⟩
      go_wp2_with fail
      refine bodyPost_ret (v := SyV 2 0 (n2 : Nat) 0 ((0 : Nat) : Int)) (by simp [results, Try.results91, go_sem, z0, z1, z2, z3, z4]) rfl ⟨⟨rfl, X6, ?_, ?_, ?_⟩, by rw [← HQ.out]; have := HN6.out; exact ⟨by omega, by omega, by omega, by omega, HOK6.out⟩⟩
      · have hbX : bs ∉ C :: L :: X6 := fun h => by
          simp only [List.mem_cons] at h
          rcases h with h | h | h
          · exact ne2 h
          · have := HOUT.out L (by simp); have := HBS.out; omega
          · rcases HNX.out _ h with h | h
            · have := HOUT.out bs (by simp [h]); have := HBS.out; omega
            · have := (Array.getElem?_eq_some_iff.1 HRS.out).1; omega
        exact (((((HM7.out.setHead (k := 3) (st' := ls) (r' := r') (by decide) rfl).setFar hbX _).setFar hbX _).setFar hbX _).setFar hbX _).setFar hbX _
      · have h0 : Only (C :: L :: X) w x7 := (Only.of_below HB1.out).trans HON.out (fun i hi => .inl hi)
        have hn : bs ∈ C :: L :: X ∨ w.heap.size ≤ bs := .inr (by have := HBS.out; omega)
        exact (((((h0.setCell (p := ⟨C, 3, none⟩) (.inl (by simp)) _).setCell (p := ⟨bs, 0, none⟩) hn _).setCell (p := ⟨bs, 1, none⟩) hn _).setCell (p := ⟨bs, 2, none⟩) hn _).setCell (p := ⟨bs, 3, none⟩) hn _).setCell (p := ⟨bs, 4, none⟩) hn _
      · intro i hi
        rcases HNX.out i hi with h | h
        · exact .inl h
        · exact .inr (Nat.le_trans HB1.out.size h)
  · have hR := HR.out
    rw [if_neg hv] at hR
    have hvb : ((v : Int) == 0) = false := beq_eq_false_iff_ne.2 (by omega)
    have hvi : (v : Int) < 4 := by omega
    obtain ⟨⟨n2, z⟩, hz⟩ : ∃ q, Md.len io 946 p l y = q := ⟨_, rfl⟩
    simp only [hz] at hR
    injection hR with hR1 hR2
    injection hR1 with hR1 hR3
    subst hR1 hR2 hR3
    have HZ := Lib.hid hz
    clear hz
    go_upto_region 2 with fail
    refine wp_region_held_drew (S := fun w2 => w2.cell? ⟨C, 3, none⟩ = some (.int .i64 (st : Nat)) ∧ w2.cell? ⟨w.heap.size, 2, none⟩ = some (.int .i64 l)) (by kernel_rfl) hdr (fun hS => ?_)
    refine tk 0 (v := ?vrb67) ?yrb67 hS ?_
    case yrb67 =>
      intro w hSw
      go_simp; all_goals (with_reducible rfl)
    simp only [Act.put, List.setIfInBounds_toArray, List.set_cons_zero, List.set_cons_succ]
    refine tk 1 (v := ?vrb68) ?yrb68 hS ?_
    case yrb68 =>
      intro w hSw
      go_simp; all_goals (with_reducible rfl)
    simp only [Act.put, List.setIfInBounds_toArray, List.set_cons_zero, List.set_cons_succ]
    refine tk 2 (v := ?vrb69) ?yrb69 hS ?_
    case yrb69 =>
      intro w hSw
      go_simp; all_goals (with_reducible rfl)
    simp only [Act.put, List.setIfInBounds_toArray, List.set_cons_zero, List.set_cons_succ]
    refine wpAnyH_take (i := 3) (oi := { dst := some 19, op := Op.move (Operand.tmp 1), type := 163, pos := "model.go:154", after := #[{ on := 2, ground := Ground.guard }], guard := some (2, true) }) (v := undef) rfl (by kernel_rfl) (by kernel_rfl) (by kernel_rfl) (fun _ _ _ h => h) (Or.inr ⟨by rfl, rfl⟩) hS ?_
    simp only [Act.put, List.setIfInBounds_toArray, List.set_cons_zero, List.set_cons_succ]
    refine wpAnyH_take (i := 4) (oi := { dst := some 20, op := Op.move (Operand.tmp 0), type := 41, pos := "model.go:154", after := #[{ on := 2, ground := Ground.guard }], guard := some (2, true) }) (v := undef) rfl (by kernel_rfl) (by kernel_rfl) (by kernel_rfl) (fun _ _ _ h => h) (Or.inr ⟨by rfl, rfl⟩) hS ?_
    simp only [Act.put, List.setIfInBounds_toArray, List.set_cons_zero, List.set_cons_succ]
    refine wpAnyH_take (i := 5) (oi := { dst := some 21, op := Op.move (Operand.tmp 0), type := 41, pos := "model.go:154", after := #[{ on := 2, ground := Ground.guard }], guard := some (2, true) }) (v := undef) rfl (by kernel_rfl) (by kernel_rfl) (by kernel_rfl) (fun _ _ _ h => h) (Or.inr ⟨by rfl, rfl⟩) hS ?_
    simp only [Act.put, List.setIfInBounds_toArray, List.set_cons_zero, List.set_cons_succ]
    refine wpAnyH_take (i := 6) (oi := { dst := some 22, op := Op.nilCheck (Operand.tmp 21), type := 0, pos := "model.go:154", after := #[{ on := 5, ground := Ground.data }, { on := 2, ground := Ground.guard }], guard := some (2, true) }) (v := undef) rfl (by kernel_rfl) (by kernel_rfl) (by kernel_rfl) (fun _ _ _ h => h) (Or.inr ⟨by rfl, rfl⟩) hS ?_
    simp only [Act.put, List.setIfInBounds_toArray, List.set_cons_zero, List.set_cons_succ]
    refine wpAnyH_take (i := 7) (oi := { dst := some 23, op := Op.fieldAddr 121 (Operand.tmp 22) 3, type := 0, pos := "model.go:154", after := #[{ on := 6, ground := Ground.data }, { on := 2, ground := Ground.guard }], guard := some (2, true) }) (v := undef) rfl (by kernel_rfl) (by kernel_rfl) (by kernel_rfl) (fun _ _ _ h => h) (Or.inr ⟨by rfl, rfl⟩) hS ?_
    simp only [Act.put, List.setIfInBounds_toArray, List.set_cons_zero, List.set_cons_succ]
    refine wpAnyH_take (i := 8) (oi := { dst := some 24, op := Op.load 3 (Operand.tmp 23), type := 3, pos := "model.go:154", after := #[{ on := 7, ground := Ground.data }, { on := 2, ground := Ground.guard }], guard := some (2, true) }) (v := undef) rfl (by kernel_rfl) (by kernel_rfl) (by kernel_rfl) (fun _ _ _ h => h) (Or.inr ⟨by rfl, rfl⟩) hS ?_
    simp only [Act.put, List.setIfInBounds_toArray, List.set_cons_zero, List.set_cons_succ]
    refine wpAnyH_take (i := 9) (oi := { dst := some 25, op := Op.nilCheck (Operand.tmp 20), type := 0, pos := "model.go:154", after := #[{ on := 4, ground := Ground.data }, { on := 2, ground := Ground.guard }], guard := some (2, true) }) (v := undef) rfl (by kernel_rfl) (by kernel_rfl) (by kernel_rfl) (fun _ _ _ h => h) (Or.inr ⟨by rfl, rfl⟩) hS ?_
    simp only [Act.put, List.setIfInBounds_toArray, List.set_cons_zero, List.set_cons_succ]
    refine wpAnyH_take (i := 10) (oi := { dst := some 26, op := Op.fieldAddr 121 (Operand.tmp 25) 10, type := 0, pos := "model.go:154", after := #[{ on := 9, ground := Ground.data }, { on := 2, ground := Ground.guard }], guard := some (2, true) }) (v := undef) rfl (by kernel_rfl) (by kernel_rfl) (by kernel_rfl) (fun _ _ _ h => h) (Or.inr ⟨by rfl, rfl⟩) hS ?_
    simp only [Act.put, List.setIfInBounds_toArray, List.set_cons_zero, List.set_cons_succ]
    refine wpAnyH_take (i := 11) (oi := { dst := some 27, op := Op.indexAddr 105 (Operand.tmp 26) (Operand.tmp 24), type := 0, pos := "model.go:154", after := #[{ on := 10, ground := Ground.data }, { on := 8, ground := Ground.data }, { on := 2, ground := Ground.guard }], guard := some (2, true) }) (v := undef) rfl (by kernel_rfl) (by kernel_rfl) (by kernel_rfl) (fun _ _ _ h => h) (Or.inr ⟨by rfl, rfl⟩) hS ?_
    simp only [Act.put, List.setIfInBounds_toArray, List.set_cons_zero, List.set_cons_succ]
    refine wpAnyH_take (i := 12) (oi := { dst := some 28, op := Op.slice 104 (Operand.tmp 27) none none none, type := 92, pos := "model.go:154", after := #[{ on := 11, ground := Ground.data }, { on := 2, ground := Ground.guard }], guard := some (2, true) }) (v := undef) rfl (by kernel_rfl) (by kernel_rfl) (by kernel_rfl) (fun _ _ _ h => h) (Or.inr ⟨by rfl, rfl⟩) hS ?_
    simp only [Act.put, List.setIfInBounds_toArray, List.set_cons_zero, List.set_cons_succ]
    refine wpAnyH_take (i := 13) (oi := { dst := some 29, op := Op.move (Operand.tmp 2), type := 3, pos := "model.go:154", after := #[{ on := 2, ground := Ground.guard }], guard := some (2, true) }) (v := undef) rfl (by kernel_rfl) (by kernel_rfl) (by kernel_rfl) (fun _ _ _ h => h) (Or.inr ⟨by rfl, rfl⟩) hS ?_
    simp only [Act.put, List.setIfInBounds_toArray, List.set_cons_zero, List.set_cons_succ]
    refine wpAnyH_take (i := 14) (oi := { dst := some 30, op := Op.fieldAddr 99 (Operand.tmp 7) 2, type := 0, pos := "model.go:154", after := #[{ on := 2, ground := Ground.guard }], guard := some (2, true) }) (v := undef) rfl (by kernel_rfl) (by kernel_rfl) (by kernel_rfl) (fun _ _ _ h => h) (Or.inr ⟨by rfl, rfl⟩) hS ?_
    simp only [Act.put, List.setIfInBounds_toArray, List.set_cons_zero, List.set_cons_succ]
    refine wpAnyH_take (i := 15) (oi := { dst := some 31, op := Op.load 3 (Operand.tmp 30), type := 3, pos := "model.go:154", after := #[{ on := 14, ground := Ground.data }, { on := 2, ground := Ground.guard }], guard := some (2, true) }) (v := undef) rfl (by kernel_rfl) (by kernel_rfl) (by kernel_rfl) (fun _ _ _ h => h) (Or.inr ⟨by rfl, rfl⟩) hS ?_
    simp only [Act.put, List.setIfInBounds_toArray, List.set_cons_zero, List.set_cons_succ]
    refine wpAnyH_take (i := 16) (oi := { dst := some 32, op := Op.binOp BinOp.neq 3 (Operand.tmp 31) (Operand.const (Value.int IntKind.i64 1)) 3, type := 4, pos := "model.go:154", after := #[{ on := 15, ground := Ground.data }, { on := 2, ground := Ground.guard }], guard := some (2, true) }) (v := undef) rfl (by kernel_rfl) (by kernel_rfl) (by kernel_rfl) (fun _ _ _ h => h) (Or.inr ⟨by rfl, rfl⟩) hS ?_
    simp only [Act.put, List.setIfInBounds_toArray, List.set_cons_zero, List.set_cons_succ]
    refine wpAnyH_take (i := 17) (oi := { dst := some 33, op := Op.call { callee := Callee.value (Operand.func 88), args := #[Operand.tmp 19, Operand.tmp 28, Operand.tmp 29, Operand.tmp 32], argTypes := #[163, 92, 3, 4] }, type := 3, pos := "model.go:154", after := #[{ on := 3, ground := Ground.data }, { on := 12, ground := Ground.data }, { on := 13, ground := Ground.data }, { on := 16, ground := Ground.data }, { on := 2, ground := Ground.chain }, { on := 2, ground := Ground.guard }], guard := some (2, true) }) (v := undef) rfl (by kernel_rfl) (by kernel_rfl) (by kernel_rfl) (fun _ _ _ h => h) (Or.inr ⟨by rfl, rfl⟩) hS ?_
    simp only [Act.put, List.setIfInBounds_toArray, List.set_cons_zero, List.set_cons_succ]
    refine wpAnyH_take (i := 18) (oi := { dst := some 34, op := Op.binOp BinOp.eql 3 (Operand.tmp 33) (Operand.const (Value.int IntKind.i64 0)) 3, type := 4, pos := "model.go:154", after := #[{ on := 17, ground := Ground.data }, { on := 2, ground := Ground.guard }], guard := some (2, true) }) (v := undef) rfl (by kernel_rfl) (by kernel_rfl) (by kernel_rfl) (fun _ _ _ h => h) (Or.inr ⟨by rfl, rfl⟩) hS ?_
    simp only [Act.put, List.setIfInBounds_toArray, List.set_cons_zero, List.set_cons_succ]
    refine tk 19 (v := ?vrb86) ?yrb86 hS ?_
    case yrb86 =>
      intro w hSw
      go_simp; all_goals (with_reducible rfl)
    simp only [Act.put, List.setIfInBounds_toArray, List.set_cons_zero, List.set_cons_succ]
    refine wpAnyH_done (by kernel_rfl) ?_ _

    clear hS hdr
    have hdr := cell_only HO4.out.1 hbo.out.1 HSY.out.2.2.1
    have HLEN := Lib.hid (len_is io (HM4.out.drewN 2) HZ.out (k := k) (io.le HOK4.out (by omega)) (.inr rfl) hp hl0 hl1)
    go_upto_region 5 with fail
    refine wp_region_held_drew (S := fun w2 => w2.cell? ⟨w.heap.size, 2, none⟩ = some (.int .i64 l)) (by kernel_rfl) hdr (fun hS => ?_)
    refine tk 0 (v := ?vrt87) ?yrt87 hS ?_
    case yrt87 =>
      intro w hSw
      go_simp; all_goals (with_reducible rfl)
    simp only [Act.put, List.setIfInBounds_toArray, List.set_cons_zero, List.set_cons_succ]
    refine tk 1 (v := ?vrt88) ?yrt88 hS ?_
    case yrt88 =>
      intro w hSw
      go_simp; all_goals (with_reducible rfl)
    simp only [Act.put, List.setIfInBounds_toArray, List.set_cons_zero, List.set_cons_succ]
    refine tk 2 (v := ?vrt89) ?yrt89 hS ?_
    case yrt89 =>
      intro w hSw
      go_simp; all_goals (with_reducible rfl)
    simp only [Act.put, List.setIfInBounds_toArray, List.set_cons_zero, List.set_cons_succ]
    refine tk 3 (v := ?vrt90) ?yrt90 hS ?_
    case yrt90 =>
      intro w hSw
      go_simp; all_goals (with_reducible rfl)
    simp only [Act.put, List.setIfInBounds_toArray, List.set_cons_zero, List.set_cons_succ]
    refine tk 4 (v := ?vrt91) ?yrt91 hS ?_
    case yrt91 =>
      intro w hSw
      go_simp; all_goals (with_reducible rfl)
    simp only [Act.put, List.setIfInBounds_toArray, List.set_cons_zero, List.set_cons_succ]
    refine tk 5 (v := ?vrt92) ?yrt92 hS ?_
    case yrt92 =>
      intro w hSw
      go_simp; all_goals (with_reducible rfl)
    simp only [Act.put, List.setIfInBounds_toArray, List.set_cons_zero, List.set_cons_succ]
    refine tk 6 (v := ?vrt93) ?yrt93 hS ?_
    case yrt93 =>
      intro w hSw
      have q1 := hSw
      go_simp; all_goals (with_reducible rfl)
    simp only [Act.put, List.setIfInBounds_toArray, List.set_cons_zero, List.set_cons_succ]
    refine wpAnyH_ready (rs := [7]) (by kernel_rfl) (by simp) ?_
    refine (AllReadyH.cons (o := { dst := some 52, op := Op.call { callee := Callee.value (Operand.func 100), args := #[Operand.tmp 47, Operand.tmp 48, Operand.tmp 49, Operand.tmp 51], argTypes := #[113, 163, 3, 3] }, type := 3, pos := "model.go:158", after := #[{ on := 2, ground := Ground.data }, { on := 3, ground := Ground.data }, { on := 4, ground := Ground.data }, { on := 6, ground := Ground.data }], guard := none }) rfl (fun K hK => ?_) AllReadyH.nil)
    go_simp
    refine HLEN.out.mono ?_
    rintro e x6 ⟨⟨rfl, hw6⟩, hn1, hn2, ok6⟩
    obtain ⟨X6, hM6, hon6, hX6⟩ := went_trans_undrew HO4.out hw6
    have g6 := cell_only hon6 hbo.out.1 HSY.out.2.2.1
    have HM6 := Lib.hid hM6
    have HO6 := Lib.hid (And.intro hon6 hX6)
    have HOK6 := Lib.hid ok6
    have HN6 := Lib.hid (And.intro hn1 hn2)
    have hn6i : (n2 : Int) ≤ 273 := by omega
    clear hM6 hon6 hX6 ok6 hn1 hn2 hw6
    go_wp2_with fail
    refine hK.out _ _ g6 (fun _ => ?_)
    clear hK K
    refine tk 8 (v := ?vrt94) ?yrt94 g6 ?_
    case yrt94 =>
      intro w hSw
      go_simp; all_goals (with_reducible rfl)
    simp only [Act.put, List.setIfInBounds_toArray, List.set_cons_zero, List.set_cons_succ]
    refine wpAnyH_done (by kernel_rfl) ?_ _
    clear hS hdr HLEN g6
    obtain ⟨_, _, _, _, c4, c5, c6, c7⟩ := HM6.out.mod.cells
    have HFR := Lib.hid (front_any HM6.out.mod v (by omega) (r4 r.1 r.2.1 r.2.2.1 r.2.2.2 v))
    rw [HR'.out] at HFR
    have HNX : Hid (∀ i ∈ X6, i ∈ X ∨ W1.heap.size ≤ i) := Lib.hid HO6.out.2
    have hsel : x6.cell? ⟨C, 4 + v, none⟩ = some (.int .i64 (r4 r.1 r.2.1 r.2.2.1 r.2.2.2 v)) := by
      have h3 : v ≤ 3 := by omega
      rcases (by omega : v = 0 ∨ v = 1 ∨ v = 2 ∨ v = 3) with h | h | h | h
      · rw [h]; exact c4
      · rw [h]; exact c5
      · rw [h]; exact c6
      · rw [h]; exact c7
    obtain ⟨RQ, hRQ⟩ : ∃ RQ, r4 r.1 r.2.1 r.2.2.1 r.2.2.2 v = RQ := ⟨_, rfl⟩
    rw [hRQ] at hsel HFR
    clear hRQ c4 c5 c6 c7
    go_wp2_with fail
    refine HFR.out.mono ?_
    rintro e x7 ⟨rfl, hm7, ho7⟩
    have hM7 := HM6.out.front hm7 ho7
    have hon7 : Only (C :: L :: X) W1 x7 := HO6.out.1.trans ho7 (fun i hi => .inl (by simp at hi; simp [hi]))
    have HM7 := Lib.hid hM7
    have HON := Lib.hid hon7
    obtain ⟨_, _, _, c3, _⟩ := hM7.mod.cells
    have f3 := hM7.mod.frozenC 3
    have hAF := after2_any st 8 11 x7
    rw [show (if st < 7 then 8 else 11) = ls from by rw [← HLSS.out]; split; rw [if_neg (by have := HN6.out.1; omega)]; rfl] at hAF
    have HAF := Lib.hid hAF
    have hrs := (HON.out.block bs (by have := (Array.getElem?_eq_some_iff.1 HRS.out).1; exact this) hbo.out.2).trans HRS.out
    have z0 : x7.cell? ⟨bs, 0, none⟩ = some (.int .i64 0) := by rw [cell_of_row x7 _ _ _ _ _ hrs]; rfl
    have z1 : x7.cell? ⟨bs, 1, none⟩ = some (.int .u8 0) := by rw [cell_of_row x7 _ _ _ _ _ hrs]; rfl
    have z2 : x7.cell? ⟨bs, 2, none⟩ = some (.int .i64 0) := by rw [cell_of_row x7 _ _ _ _ _ hrs]; rfl
    have z3 : x7.cell? ⟨bs, 3, none⟩ = some (.int .i64 0) := by rw [cell_of_row x7 _ _ _ _ _ hrs]; rfl
    have z4 : x7.cell? ⟨bs, 4, none⟩ = some (.int .i64 0) := by rw [cell_of_row x7 _ _ _ _ _ hrs]; rfl
    have zf : ∀ i, x7.frozen? ⟨bs, i, none⟩ = false := fun i => frozen_of_row _ _ _ _ _ hrs
    have zf0 := zf 0
    have zf1 := zf 1
    have zf2 := zf 2
    have zf3 := zf 3
    have zf4 := zf 4
    clear hrs zf
    clear hm7 ho7 hM7 hon7 hAF HFR hsel
    go_wp2_with fail
    refine HAF.out.mono ?_
    rintro e x8 ⟨rfl, rfl⟩
    go_wp2_with fail
    refine bodyPost_ret (v := SyV 2 0 (n2 : Nat) 0 ((v : Nat) : Int)) (by simp [results, Try.results91, go_sem, z0, z1, z2, z3, z4]) rfl ⟨⟨rfl, X6, ?_, ?_, ?_⟩, by rw [← HQ.out]; have := HN6.out; exact ⟨by omega, by omega, by omega, by omega, HOK6.out⟩⟩
    · have hbX : bs ∉ C :: L :: X6 := fun h => by
        simp only [List.mem_cons] at h
        rcases h with h | h | h
        · exact ne2 h
        · have := HOUT.out L (by simp); have := HBS.out; omega
        · rcases HNX.out _ h with h | h
          · have := HOUT.out bs (by simp [h]); have := HBS.out; omega
          · have := (Array.getElem?_eq_some_iff.1 HRS.out).1; omega
      exact (((((HM7.out.setHead (k := 3) (st' := ls) (r' := r') (by decide) rfl).setFar hbX _).setFar hbX _).setFar hbX _).setFar hbX _).setFar hbX _
    · have h0 : Only (C :: L :: X) w x7 := (Only.of_below HB1.out).trans HON.out (fun i hi => .inl hi)
      have hn : bs ∈ C :: L :: X ∨ w.heap.size ≤ bs := .inr (by have := HBS.out; omega)
      exact (((((h0.setCell (p := ⟨C, 3, none⟩) (.inl (by simp)) _).setCell (p := ⟨bs, 0, none⟩) hn _).setCell (p := ⟨bs, 1, none⟩) hn _).setCell (p := ⟨bs, 2, none⟩) hn _).setCell (p := ⟨bs, 3, none⟩) hn _).setCell (p := ⟨bs, 4, none⟩) hn _
    · intro i hi
      rcases HNX.out i hi with h | h
      · exact .inl h
      · exact .inr (Nat.le_trans HB1.out.size h)
end Go.Proofs.Ytkckjjchfccdjaa
