/- What the laws of the model call besides: May, repeats; the document's rows. -/
import Derived.Test.YtiodlhieaajcgaaMlSymAll
import Derived.Test.YtiodlhieaajcgaaRcBytes
namespace Go.Proofs.Ytiodlhieaajcgaa
open Go.RowKit

set_option maxRecDepth 100000 in
set_option maxHeartbeats 1000000 in
theorem may_any (lc lp pb : Int) (w : World) : Calls Try.prog 7 #[.int .i64 lc, .int .i64 lp, .int .i64 pb] w fun e w' => e = .returned (.bool (permB lc lp pb)) ∧ w = w' := by
  obtain ⟨R, hR⟩ : ∃ R, permB lc lp pb = R := ⟨_, rfl⟩
  rw [hR]
  by_cases hlc0 : 0 ≤ lc
  case neg =>
    have HRv : Hid (R = false) := Lib.hid (by rw [← hR]; exact decide_eq_false (by omega))
    clear hR
    go_enter Try.func7, Try.ntmps7
    go_wp2_with fail
    go_ret
    exact ⟨by rw [HRv.out]; rfl, rfl⟩
  by_cases hlc4 : lc ≤ 4
  case neg =>
    have HRv : Hid (R = false) := Lib.hid (by rw [← hR]; exact decide_eq_false (by omega))
    clear hR
    go_enter Try.func7, Try.ntmps7
    go_wp2_with fail
    go_ret
    exact ⟨by rw [HRv.out]; rfl, rfl⟩
  by_cases hlp0 : 0 ≤ lp
  case neg =>
    have HRv : Hid (R = false) := Lib.hid (by rw [← hR]; exact decide_eq_false (by omega))
    clear hR
    go_enter Try.func7, Try.ntmps7
    go_wp2_with fail
    go_ret
    exact ⟨by rw [HRv.out]; rfl, rfl⟩
  by_cases hlp4 : lp ≤ 4
  case neg =>
    have HRv : Hid (R = false) := Lib.hid (by rw [← hR]; exact decide_eq_false (by omega))
    clear hR
    go_enter Try.func7, Try.ntmps7
    go_wp2_with fail
    go_ret
    exact ⟨by rw [HRv.out]; rfl, rfl⟩
  by_cases hs4 : lc + lp ≤ 4
  case neg =>
    have HRv : Hid (R = false) := Lib.hid (by rw [← hR]; exact decide_eq_false (by omega))
    clear hR
    go_enter Try.func7, Try.ntmps7
    go_wp2_with fail
    go_ret
    exact ⟨by rw [HRv.out]; rfl, rfl⟩
  by_cases hpb0 : 0 ≤ pb
  case neg =>
    have HRv : Hid (R = false) := Lib.hid (by rw [← hR]; exact decide_eq_false (by omega))
    clear hR
    go_enter Try.func7, Try.ntmps7
    go_wp2_with fail
    go_ret
    exact ⟨by rw [HRv.out]; rfl, rfl⟩
  by_cases hpb4 : pb ≤ 4
  case neg =>
    have HRv : Hid (R = false) := Lib.hid (by rw [← hR]; exact decide_eq_false (by omega))
    clear hR
    go_enter Try.func7, Try.ntmps7
    go_wp2_with fail
    go_ret
    exact ⟨by rw [HRv.out]; rfl, rfl⟩
  have HRv : Hid (R = true) := Lib.hid (by rw [← hR]; exact decide_eq_true (by omega))
  clear hR
  go_enter Try.func7, Try.ntmps7
  go_wp2_with fail
  go_ret
  exact ⟨by rw [HRv.out]; rfl, rfl⟩
set_option maxRecDepth 100000 in
set_option maxHeartbeats 1000000 in
theorem repeats_same (r : R4) (g cap : Nat) (w : World) (hc : 4 ≤ cap) (c0 : w.cell? ⟨g, 0, none⟩ = some (.int .i64 r.1)) (c1 : w.cell? ⟨g, 1, none⟩ = some (.int .i64 r.2.1)) (c2 : w.cell? ⟨g, 2, none⟩ = some (.int .i64 r.2.2.1)) (c3 : w.cell? ⟨g, 3, none⟩ = some (.int .i64 r.2.2.2)) :
    Calls Try.prog 17 #[r.val, .slice (some ⟨g, 0, none⟩) 4 cap] w (Tells (.bool true) w) := by
  obtain ⟨a, b, c, d⟩ := r
  simp only at c0 c1 c2 c3
  have hgl := block_lt_of_cell c0
  simp only at hgl
  obtain ⟨W1, hW1⟩ : ∃ W1, w.alloc (.cells #[.int .i64 a, .int .i64 b, .int .i64 c, .int .i64 d] 49) = W1 := ⟨_, rfl⟩
  have hb1 : Below w.heap.size w W1 := by rw [← hW1]; exact (Below.refl _ _).alloc (Nat.le_refl _) _
  have hrow : W1.heap[w.heap.size]? = some (.cells [Value.int .i64 a, .int .i64 b, .int .i64 c, .int .i64 d].toArray 49 (0, 0)) := by rw [← hW1]; exact heap_alloc_last _ _
  have x0 : W1.cell? ⟨w.heap.size, 0, none⟩ = some (.int .i64 a) := by rw [cell_of_row W1 _ _ _ _ _ hrow]; rfl
  have x1 : W1.cell? ⟨w.heap.size, 1, none⟩ = some (.int .i64 b) := by rw [cell_of_row W1 _ _ _ _ _ hrow]; rfl
  have x2 : W1.cell? ⟨w.heap.size, 2, none⟩ = some (.int .i64 c) := by rw [cell_of_row W1 _ _ _ _ _ hrow]; rfl
  have x3 : W1.cell? ⟨w.heap.size, 3, none⟩ = some (.int .i64 d) := by rw [cell_of_row W1 _ _ _ _ _ hrow]; rfl
  have y0 := (hb1.cell (p := ⟨g, 0, none⟩) hgl).trans c0
  have y1 := (hb1.cell (p := ⟨g, 1, none⟩) hgl).trans c1
  have y2 := (hb1.cell (p := ⟨g, 2, none⟩) hgl).trans c2
  have y3 := (hb1.cell (p := ⟨g, 3, none⟩) hgl).trans c3
  have HX := Lib.hid (And.intro x0 (And.intro x1 (And.intro x2 x3)))
  have HY := Lib.hid (And.intro y0 (And.intro y1 (And.intro y2 y3)))
  have HW1 := Lib.hid hW1
  have HB1 := Lib.hid hb1
  have hci : (4 : Int) ≤ (cap : Int) := by omega
  clear hW1 hb1 hrow x0 x1 x2 x3 y0 y1 y2 y3 c0 c1 c2 c3
  go_enter Try.func17, Try.ntmps17
  go_upto_region 1 with fail
  rw [HW1.out]
  go_wp2_with fail
  go_loopw [5] (fun i wr => ∃ n : Int, 0 ≤ n ∧ n ≤ 4 ∧ i = .int .i64 n ∧ Hid (Below W1.heap.size W1 wr)) (fun i _ => 4 - (intOf i).toNat)
  case atStart => exact ⟨0, by omega, by omega, rfl, Lib.hid (Below.refl _ _)⟩
  case round =>
    obtain ⟨n, hn0, hn, rfl, HBW⟩ := hrel
    have hl1 : g < W1.heap.size := Nat.lt_of_lt_of_le hgl HB1.out.size
    have hl2 : w.heap.size < W1.heap.size := block_lt_of_cell HX.out.1
    have hnn : n = 0 ∨ n = 1 ∨ n = 2 ∨ n = 3 ∨ n = 4 := by omega
    clear hn0 hn
    rcases hnn with rfl | rfl | rfl | rfl | rfl
    · have x0 := (HBW.out.cell (p := ⟨w.heap.size, 0, none⟩) hl2).trans HX.out.1
      have y0 := (HBW.out.cell (p := ⟨g, 0, none⟩) hl1).trans HY.out.1
      go_wp2_with fail
      go_region
      go_wp2_with fail
      exact ⟨⟨1, by omega, by omega, rfl, Lib.hid HBW.out.drew⟩, by simp [intOf]⟩
    · have x1 := (HBW.out.cell (p := ⟨w.heap.size, 1, none⟩) hl2).trans HX.out.2.1
      have y1 := (HBW.out.cell (p := ⟨g, 1, none⟩) hl1).trans HY.out.2.1
      go_wp2_with fail
      go_region
      go_wp2_with fail
      exact ⟨⟨2, by omega, by omega, rfl, Lib.hid HBW.out.drew⟩, by simp [intOf]⟩
    · have x2 := (HBW.out.cell (p := ⟨w.heap.size, 2, none⟩) hl2).trans HX.out.2.2.1
      have y2 := (HBW.out.cell (p := ⟨g, 2, none⟩) hl1).trans HY.out.2.2.1
      go_wp2_with fail
      go_region
      go_wp2_with fail
      exact ⟨⟨3, by omega, by omega, rfl, Lib.hid HBW.out.drew⟩, by simp [intOf]⟩
    · have x3 := (HBW.out.cell (p := ⟨w.heap.size, 3, none⟩) hl2).trans HX.out.2.2.2
      have y3 := (HBW.out.cell (p := ⟨g, 3, none⟩) hl1).trans HY.out.2.2.2
      go_wp2_with fail
      go_region
      go_wp2_with fail
      exact ⟨⟨4, by omega, by omega, rfl, Lib.hid HBW.out.drew⟩, by simp [intOf]⟩
    · go_wp2_with fail
      go_ret
      exact ⟨rfl, HB1.out.trans (HBW.out.mono HB1.out.size)⟩
theorem rGood1 : rGood (1, 1, 1, 1) := by unfold rGood; decide
theorem ms_start {g o cap C L lc lp pb : Nat} {w1 w2 : World} (hM : ModAt w1 C L lc lp pb 0 (1, 1, 1, 1) (fun _ => 1024)) (hb : Below w1.heap.size w1 w2) (hE : EncAt w2 g o cap st0) (hg : w1.heap.size ≤ g) (ho : w1.heap.size ≤ o) : MS (encIo g) w2 C L lc lp pb 0 (1, 1, 1, 1) (fun _ => 1024, st0) [g, o] := by
  have h1 := hM.clt
  have h2 := hM.llt
  refine ⟨hM.keep (hb.block _ h1) (hb.block _ h2), ⟨o, cap, rfl, hE⟩, ?_, ?_⟩
  · simp; omega
  · simp; omega
theorem st0_oks (g n : Nat) (h : n ≤ 1000000) : (encIo g).ok st0 n := ⟨st0_ok, by show 1 + 0 + 2 * n ≤ _; omega⟩
set_option maxRecDepth 100000 in
theorem eqOnes (w : World) : (Op.equalIn 10000 49 (.agg #[.int .i64 1, .int .i64 1, .int .i64 1, .int .i64 1]) (.agg #[.int .i64 1, .int .i64 1, .int .i64 1, .int .i64 1])).run Try.prog w = .ok true w := by
  kernel_rfl
theorem know_k (g : Nat) : ((Md.sym (encIo g) 3 0 2 0 (1, 1, 1, 1) [65] 1 0 2 1 0 (Md.sym (encIo g) 3 0 2 0 (1, 1, 1, 1) [] 0 65 0 0 0 (fun _ => 1024, st0)).2.2.2).2.2.2).2.k = 2 := by kernel_rfl
set_option maxRecDepth 100000 in
set_option maxHeartbeats 1000000 in
theorem knows_any (w : World) : Calls Try.prog 5 #[] w (Holds w) := by
  have HNG : Hid (Calls Try.prog 6 #[.int .i64 3, .int .i64 0, .int .i64 2] w (NewGood 3 0 2 w)) := Lib.hid (mnew_good 3 0 2 w (by decide) (by decide) (by decide) (by decide))
  go_enter Try.func5, Try.ntmps5
  go_wp2_with fail
  refine HNG.out.mono ?_
  rintro e w1 ⟨C, L, rfl, hM, hb1, hC, hL⟩
  have HNB : Hid (Calls Try.prog 6 #[.int .i64 4, .int .i64 1, .int .i64 0] w1 (NewBad w1)) := Lib.hid (mnew_bad 4 1 0 w1 (by decide))
  have HM := Lib.hid hM
  have HB1 := Lib.hid hb1
  have HCL := Lib.hid (And.intro hC hL)
  clear hM hb1 hC hL
  go_wp2_with fail
  refine HNB.out.mono ?_
  rintro e w1' ⟨rfl, rfl⟩
  go_wp2_with fail
  refine (new_any _).mono ?_
  rintro e w2 ⟨g, o, cap, rfl, hE, hb2, hg, ho⟩
  have hms := ms_start HM.out hb2 hE hg ho
  have hlo : ∀ i ∈ C :: L :: [g, o], w.heap.size ≤ i := by
    intro i hi
    simp only [List.mem_cons, List.not_mem_nil, or_false] at hi
    have := HB1.out.size
    rcases hi with rfl | rfl | rfl | rfl
    · exact HCL.out.1
    · exact HCL.out.2
    · omega
    · omega
  obtain ⟨s1, st1, r1, z1, hs1, hr1, hst1, _⟩ := fits_sym (g := g) (x := (fun _ => 1024, st0)) (lc := 3) (lp := 0) (pb := 2) (st := 0) (r := (1, 1, 1, 1)) (H := []) (k := 0) (b := 65) (l := 0) (d := 0) (q := 0) (by decide) (by decide) (by decide) (by decide) rGood1 (by decide) (by decide)
  have hst1' : st1 = 0 := by
    have h : stateAfter ((0 : Nat) : Int) 0 0 = 0 := by decide
    rw [h] at hst1; omega
  subst hst1'
  have hr1' : r1 = (1, 1, 1, 1) := hr1
  subst hr1'
  have hp := put_yes hms (by decide) (by decide) (by decide) (by decide) rGood1 (k := 60) none [] 0 (.nil (w := w2)) (by decide) (by decide) (by simp) 0 65 0 0 0 (by decide) hs1 (st0_oks g _ (by decide))
  have HP : Hid (Calls Try.prog 11 #[PF C, PF g, .slice none 0 0, .agg #[.int .i64 0, .int .u8 65, .int .i64 0, .int .i64 0, .int .i64 0]] w2 _) := Lib.hid hp
  have HB2 := Lib.hid (HB1.out.trans (hb2.mono HB1.out.size))
  have HS1 := Lib.hid hs1
  have HLO := Lib.hid hlo
  clear hms hlo hs1 hr1 hst1 hp hE hb2 hg ho
  go_wp2_with fail
  refine HP.out.mono ?_
  rintro e w3 ⟨⟨rfl, X3, hM3, hon3, hX3⟩, _, _, _, _, _, _, ok3⟩
  have hb3 := Only.below_of HB2.out hon3 HLO.out
  have hlo3 : ∀ i ∈ C :: L :: X3, w.heap.size ≤ i := by
    intro i hi
    simp only [List.mem_cons] at hi
    rcases hi with rfl | rfl | hi
    · exact HLO.out _ (by simp)
    · exact HLO.out _ (by simp)
    · rcases hX3 i hi with h | h
      · exact HLO.out i (by simp at h ⊢; exact .inr (.inr h))
      · exact Nat.le_trans HB2.out.size h
  obtain ⟨W4, hW4⟩ : ∃ W4, w3.alloc (.cells #[.int .u8 65] 5) = W4 := ⟨_, rfl⟩
  have hb4 : Below w3.heap.size w3 W4 := by rw [← hW4]; exact (Below.refl _ _).alloc (Nat.le_refl _) _
  have hby : Bytes W4 (some ⟨w3.heap.size, 0, none⟩) [65] := by rw [← hW4]; exact lit_bytes w3 65
  obtain ⟨s2, st2, r2, z2, hs2, hr2, hst2, _⟩ := fits_sym (g := g) (x := z1) (lc := 3) (lp := 0) (pb := 2) (st := 0) (r := (1, 1, 1, 1)) (H := [65]) (k := 1) (b := 0) (l := 2) (d := 1) (q := 0) (by decide) (by decide) (by decide) (by decide) rGood1 (by decide) (by decide)
  have hst2' : st2 = 7 := by
    have h : stateAfter ((0 : Nat) : Int) 1 2 = 7 := by decide
    rw [h] at hst2; omega
  subst hst2'
  have hr2' : r2 = (1, 1, 1, 1) := hr2
  subst hr2'
  have hk : z2.2.k = 2 := by
    have h := know_k g
    rw [HS1.out] at h
    simp only at h
    rw [hs2] at h
    exact h
  have hp := put_yes (hM3.below hb4) (by decide) (by decide) (by decide) (by decide) rGood1 (k := 6) (some ⟨w3.heap.size, 0, none⟩) [65] 1 hby (by decide) (by decide) (by
    intro a e
    injection e with e
    subst e
    exact hM3.out_new (Nat.le_refl _)) 1 0 2 1 0 (by decide) hs2 ok3
  have HP2 : Hid (Calls Try.prog 11 #[PF C, PF g, .slice (some ⟨w3.heap.size, 0, none⟩) 1 1, .agg #[.int .i64 1, .int .u8 0, .int .i64 2, .int .i64 1, .int .i64 0]] W4 _) := Lib.hid hp
  have HW4 := Lib.hid hW4
  have HK := Lib.hid hk
  have HB4 := Lib.hid (hb3.trans (hb4.mono hb3.size))
  have HLO3 := Lib.hid hlo3
  clear hM3 hon3 hX3 ok3 hb3 hlo3 hW4 hb4 hby hs2 hr2 hst2 hk hp
  go_upto_region 7 with fail
  go_wp2_with (first | rw [HW4.out] | fail)
  refine HP2.out.mono ?_
  rintro e w5 ⟨⟨rfl, X5, hM5, hon5, hX5⟩, _, _, _, _, _, _, ok5⟩
  have HB5 := Lib.hid (Only.below_of HB4.out hon5 HLO3.out)
  have HM5 := Lib.hid hM5
  have HST := Lib.hid (state_any hM5.mod)
  have HRP := Lib.hid (repeats_any hM5.mod)
  clear hM5 hon5 hX5 ok5
  go_wp2_with fail
  refine HST.out.mono ?_
  rintro e w6 ⟨rfl, rfl⟩
  go_wp2_with fail
  refine HRP.out.mono ?_
  rintro e w6 ⟨rfl, hb6⟩
  obtain ⟨o6, cap6, _, hE6⟩ := (HM5.out.below hb6).io
  have hby6 := bytes_any g o6 cap6 z2.2 w6 hE6 (by rw [HK.out]; decide)
  rw [HK.out] at hby6
  have HBY := Lib.hid hby6
  have eq6 := eqOnes w6
  have HB6 := Lib.hid (HB5.out.trans (hb6.mono HB5.out.size))
  clear hb6 hE6 hby6
  go_wp2_with fail
  refine HBY.out.mono ?_
  rintro e w7 ⟨v, rfl, hO, hb7⟩
  obtain ⟨A, c, rfl, _, _, _⟩ := hO.read
  have hl : (Rc.be (5 + 2) z2.2.v).length = 7 := Rc.be_length _ _
  rw [hl]
  have HB7 := Lib.hid (HB6.out.trans (hb7.mono HB6.out.size))
  clear hO hb7 hl
  go_wp2_with fail
  go_ret
  exact ⟨rfl, HB7.out⟩
end Go.Proofs.Ytiodlhieaajcgaa
