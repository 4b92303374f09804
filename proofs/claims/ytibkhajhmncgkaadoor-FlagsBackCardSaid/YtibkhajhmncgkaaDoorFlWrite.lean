/- The contract of FlagsWrite. -/
import Derived.Test.YtibkhajhmncgkaaDoorFlLaws
namespace Go.Proofs.YtibkhajhmncgkaaDoor
open Go.RowKit

theorem sizeOk_cases (s : Int) (h : sizeOk s = true) : 4 ≤ s ∧ s ≤ 17179869184 ∧ s % 4 = 0 := by simpa [sizeOk, Bool.and_eq_true, decide_eq_true_eq] using h
theorem size_bad (s : Int) (h : sizeOk s = false) : s < 4 ∨ (4 ≤ s ∧ 17179869184 < s) ∨ (4 ≤ s ∧ s ≤ 17179869184 ∧ s % 4 ≠ 0) := by
  by_cases h4 : s < 4
  · exact .inl h4
  by_cases hm : 17179869184 < s
  · exact .inr (.inl ⟨by omega, hm⟩)
  · refine .inr (.inr ⟨by omega, by omega, fun h0 => ?_⟩)
    simp [sizeOk] at h; omega
theorem fine_byte (c : Int) (h : fineB c = true) : ∃ b : UInt8, c = (b.toNat : Nat) := by
  rcases fine_cases c with rfl | rfl | rfl | rfl | h2
  · exact ⟨0, rfl⟩
  · exact ⟨1, rfl⟩
  · exact ⟨4, rfl⟩
  · exact ⟨10, rfl⟩
  · rw [h] at h2; cases h2

set_option maxRecDepth 100000 in
set_option maxHeartbeats 4000000 in
theorem write_no (c : Int) (A : Option Addr) (l : List UInt8) (cap : Nat) (s : Int) (w : World) (hlo : -9223372036854775808 ≤ s) (hhi : s ≤ 9223372036854775807) (hB : Bytes w A l) (hc : l.length ≤ cap) (hm : cap ≤ 9223372036854775807) (hT : Tabs w) (hl : l.length ≤ 300) (hf : fineB c = false) :
    Calls Tryd.prog 3 #[.int .i64 c, .slice A l.length cap, .int .i64 s] w (Holds w) := by
  have hi : (l.length : Int) ≤ 300 := by omega
  have hz : rsizeC c = -1 := by unfold rsizeC; rw [hf]; rfl
  have H1 := Lib.hid (rsize_any c w)
  rw [hz] at H1
  have H2 := Lib.hid (head_no c w hf)
  have H3 := Lib.hid (fun w' => foot_no c s w' hlo hhi (.inl hf))
  have H4 := Lib.hid (fun w' => fine_any c w')
  rw [hf] at H4
  have hsz : sizeOfC c = 0 := by
    simp [fineB] at hf
    unfold sizeOfC; rw [if_neg (by omega), if_neg (by omega), if_neg (by omega)]
  have H5 := Lib.hid (fun w' h => size_any c w' h)
  rw [hsz] at H5
  have hsb : sumB c l = [] := List.eq_nil_of_length_eq_zero (by rw [sumB_length, hsz])
  have H6 := Lib.hid (fun w' (ht : Tabs w') (h : Bytes w' A l) => chk_any c A l cap w' ht h hc hm (by omega))
  rw [hsb] at H6
  have HT := Lib.hid hT
  have HB := Lib.hid hB
  clear hz hf hsz hsb hT hB hl
  go_enter Tryd.func3, Tryd.ntmps3
  go_wp2_with fail
  refine H1.out.mono ?_
  rintro e _ ⟨rfl, rfl⟩
  go_wp2_with fail
  refine H2.out.mono ?_
  rintro e w1 ⟨rfl, hb1⟩
  go_wp2_with fail
  refine (H3.out w1).mono ?_
  rintro e w2 ⟨rfl, hb2⟩
  have g2 := hb1.trans (hb2.mono hb1.size)
  clear hb1 hb2
  go_wp2_with fail
  refine (H4.out w2).mono ?_
  rintro e w3 ⟨rfl, hb3⟩
  have g3 := g2.trans (hb3.mono g2.size)
  have HS := Lib.hid (H5.out w3 (HT.out.below g3))
  clear g2 hb3
  go_wp2_with fail
  refine HS.out.mono ?_
  rintro e w4 ⟨rfl, hb4⟩
  have g4 := g3.trans (hb4.mono g3.size)
  have HS2 := Lib.hid (H6.out w4 (HT.out.below g4) (HB.out.below g4))
  clear g3 hb4 HS
  go_wp2_with fail
  refine HS2.out.mono ?_
  rintro e w5 ⟨A5, c5, rfl, _, _, _, hb5⟩
  have g5 := g4.trans (hb5.mono g4.size)
  have HS3 := Lib.hid (fl_knows w5 (HT.out.below g5))
  clear g4 hb5 HS2
  go_wp2_with fail
  refine HS3.out.mono ?_
  rintro e w6 ⟨rfl, hb6⟩
  go_wp2_with fail
  go_ret
  exact ⟨rfl, g5.trans (hb6.mono g5.size)⟩

set_option maxRecDepth 100000 in
set_option maxHeartbeats 4000000 in
theorem write_yes (b : UInt8) (A : Option Addr) (l : List UInt8) (cap : Nat) (s : Int) (w : World) (hlo : -9223372036854775808 ≤ s) (hhi : s ≤ 9223372036854775807) (hB : Bytes w A l) (hc : l.length ≤ cap) (hm : cap ≤ 9223372036854775807) (hT : Tabs w) (hl : l.length ≤ 300) (hf : fineB (b.toNat : Nat) = true) :
    Calls Tryd.prog 3 #[.int .i64 (b.toNat : Nat), .slice A l.length cap, .int .i64 s] w (Holds w) := by
  have hi : (l.length : Int) ≤ 300 := by omega
  have hz : rsizeC (b.toNat : Nat) = (sizeOfC (b.toNat : Nat) : Int) := by unfold rsizeC; rw [hf]; rfl
  have H1 := Lib.hid (rsize_any (b.toNat : Nat) w)
  rw [hz] at H1
  have HLS := Lib.hid (sumB_length (b.toNat : Nat) l)
  obtain ⟨N, hN⟩ : ∃ N, sizeOfC (b.toNat : Nat) = N := ⟨_, rfl⟩
  have HSZ := Lib.hid hN
  rw [hN] at H1 HLS
  have H2 := Lib.hid (head_yes b w hT hf)
  have H4 := Lib.hid (fun w' => fine_any (b.toNat : Nat) w')
  rw [hf] at H4
  have HCK := Lib.hid (fun w' (ht : Tabs w') (h : Bytes w' A l) => chk_any (b.toNat : Nat) A l cap w' ht h hc hm (by omega))
  have HRC := Lib.hid (fun w' (h : Bytes w' A l) => rchk_any (b.toNat : Nat) A l cap w' h (by omega))
  have HLH := Lib.hid (headL_length b)
  have HT := Lib.hid hT
  have HBB := Lib.hid hB
  have hN0 : (0 : Int) ≤ (N : Int) := by omega
  generalize sumB (b.toNat : Nat) l = SB at *
  clear hz hN hT hB hl
  cases hs : sizeOk s with
  | false =>
    have H3 := Lib.hid (fun w' => foot_no (b.toNat : Nat) s w' hlo hhi (.inr hs))
    have HS := Lib.hid hs
    clear hf hs
    go_enter Tryd.func3, Tryd.ntmps3
    go_wp2_with fail
    refine H1.out.mono ?_
    rintro e _ ⟨rfl, rfl⟩
    go_wp2_with fail
    refine H2.out.mono ?_
    rintro e w1 ⟨gx, capx, rfl, _, _, _, hgx, hFx, hb1⟩
    have hX1 := hFx.bytes hgx
    rw [HLH.out]
    go_wp2_with fail
    refine (H3.out w1).mono ?_
    rintro e w2 ⟨rfl, hb2⟩
    have g2 := hb1.trans (hb2.mono hb1.size)
    have hX2 := hX1.below hb2
    clear hb1 hb2 hX1 hFx hgx
    go_wp2_with fail
    refine (H4.out w2).mono ?_
    rintro e w3 ⟨rfl, hb3⟩
    have g3 := g2.trans (hb3.mono g2.size)
    have HX := Lib.hid (hX2.below hb3)
    clear g2 hb3 hX2
    go_wp2_with fail
    have hdr : Below w3.heap.size w3 w3.drew := below_drew w3
    refine wp_region_held_drew (S := fun w' => Below w3.heap.size w3 w') (by kernel_rfl) hdr (fun hS => ?_)
    refine wpAnyH_take (i := 0) (oi := { dst := some 67, op := Op.move (Operand.tmp 0), type := 3, pos := "law.go:31", after := #[], guard := none }) (v := ?va13) rfl (by kernel_rfl) (by kernel_rfl) (by kernel_rfl) (fun _ _ _ h => h) (Or.inl ⟨by rfl, ?ya13⟩) hS ?_
    case ya13 =>
      intro w hSw
      go_simp; all_goals (with_reducible rfl)
    simp only [Act.put, List.setIfInBounds_toArray, List.set_cons_zero, List.set_cons_succ]
    refine wpAnyH_take (i := 2) (oi := { dst := some 69, op := Op.move (Operand.tmp 7), type := 3, pos := "law.go:31", after := #[], guard := none }) (v := ?va14) rfl (by kernel_rfl) (by kernel_rfl) (by kernel_rfl) (fun _ _ _ h => h) (Or.inl ⟨by rfl, ?ya14⟩) hS ?_
    case ya14 =>
      intro w hSw
      go_simp; all_goals (with_reducible rfl)
    simp only [Act.put, List.setIfInBounds_toArray, List.set_cons_zero, List.set_cons_succ]
    refine wpAnyH_ready (rs := [1]) (by kernel_rfl) (by simp) ?_
    refine (AllReadyH.cons (o := { dst := some 68, op := Op.call { callee := Callee.value (Operand.func 11), args := #[Operand.tmp 67], argTypes := #[3] }, type := 3, pos := "law.go:31", after := #[{ on := 0, ground := Ground.data }], guard := none }) rfl (fun K hK => ?_) AllReadyH.nil)
    go_simp
    refine (size_any (b.toNat : Nat) w3.drew (HT.out.below (g3.trans (hdr.mono g3.size)))).mono ?_
    rintro e w4 ⟨rfl, hb4⟩
    have g4 := hdr.trans (hb4.mono hdr.size)
    rw [HSZ.out]
    clear hb4
    go_wp2_with fail
    refine hK.out _ _ g4 (fun _ => ?_)
    clear hK K
    refine wpAnyH_take (i := 3) (oi := { dst := some 70, op := Op.binOp BinOp.neq 3 (Operand.tmp 68) (Operand.tmp 69) 3, type := 4, pos := "law.go:31", after := #[{ on := 1, ground := Ground.data }, { on := 2, ground := Ground.data }], guard := none }) (v := ?va15) rfl (by kernel_rfl) (by kernel_rfl) (by kernel_rfl) (fun _ _ _ h => h) (Or.inl ⟨by rfl, ?ya15⟩) g4 ?_
    case ya15 =>
      intro w hSw
      go_simp; all_goals (with_reducible rfl)
    simp only [Act.put, List.setIfInBounds_toArray, List.set_cons_zero, List.set_cons_succ]
    refine wpAnyH_take (i := 4) (oi := { dst := some 71, op := Op.move (Operand.tmp 70), type := 4, pos := "law.go:31", after := #[{ on := 3, ground := Ground.data }, { on := 1, ground := Ground.chain }], guard := none }) (v := ?va16) rfl (by kernel_rfl) (by kernel_rfl) (by kernel_rfl) (fun _ _ _ h => h) (Or.inl ⟨by rfl, ?ya16⟩) g4 ?_
    case ya16 =>
      intro w hSw
      go_simp; all_goals (with_reducible rfl)
    simp only [Act.put, List.setIfInBounds_toArray, List.set_cons_zero, List.set_cons_succ]
    refine wpAnyH_take (i := 5) (oi := { dst := some 72, op := Op.move (Operand.tmp 0), type := 3, pos := "law.go:31", after := #[{ on := 4, ground := Ground.guard }], guard := some (4, false) }) (v := ?va17) rfl (by kernel_rfl) (by kernel_rfl) (by kernel_rfl) (fun _ _ _ h => h) (Or.inl ⟨by rfl, ?ya17⟩) g4 ?_
    case ya17 =>
      intro w hSw
      go_simp; all_goals (with_reducible rfl)
    simp only [Act.put, List.setIfInBounds_toArray, List.set_cons_zero, List.set_cons_succ]
    refine wpAnyH_take (i := 6) (oi := { dst := some 73, op := Op.move (Operand.tmp 1), type := 22, pos := "law.go:31", after := #[{ on := 4, ground := Ground.guard }], guard := some (4, false) }) (v := ?va18) rfl (by kernel_rfl) (by kernel_rfl) (by kernel_rfl) (fun _ _ _ h => h) (Or.inl ⟨by rfl, ?ya18⟩) g4 ?_
    case ya18 =>
      intro w hSw
      go_simp; all_goals (with_reducible rfl)
    simp only [Act.put, List.setIfInBounds_toArray, List.set_cons_zero, List.set_cons_succ]
    refine wpAnyH_take (i := 9) (oi := { dst := some 76, op := Op.move (Operand.tmp 0), type := 3, pos := "law.go:31", after := #[{ on := 4, ground := Ground.guard }], guard := some (4, false) }) (v := ?va19) rfl (by kernel_rfl) (by kernel_rfl) (by kernel_rfl) (fun _ _ _ h => h) (Or.inl ⟨by rfl, ?ya19⟩) g4 ?_
    case ya19 =>
      intro w hSw
      go_simp; all_goals (with_reducible rfl)
    simp only [Act.put, List.setIfInBounds_toArray, List.set_cons_zero, List.set_cons_succ]
    refine wpAnyH_take (i := 10) (oi := { dst := some 77, op := Op.move (Operand.tmp 1), type := 22, pos := "law.go:31", after := #[{ on := 4, ground := Ground.guard }], guard := some (4, false) }) (v := ?va20) rfl (by kernel_rfl) (by kernel_rfl) (by kernel_rfl) (fun _ _ _ h => h) (Or.inl ⟨by rfl, ?ya20⟩) g4 ?_
    case ya20 =>
      intro w hSw
      go_simp; all_goals (with_reducible rfl)
    simp only [Act.put, List.setIfInBounds_toArray, List.set_cons_zero, List.set_cons_succ]
    refine wpAnyH_ready (rs := [7]) (by kernel_rfl) (by simp) ?_
    refine (AllReadyH.cons (o := { dst := some 74, op := Op.call { callee := Callee.value (Operand.func 12), args := #[Operand.tmp 72, Operand.tmp 73], argTypes := #[3, 22] }, type := 22, pos := "law.go:31", after := #[{ on := 5, ground := Ground.data }, { on := 6, ground := Ground.data }, { on := 4, ground := Ground.chain }, { on := 4, ground := Ground.guard }], guard := some (4, false) }) rfl (fun K hK => ?_) AllReadyH.nil)
    go_simp
    refine (HCK.out w4 (HT.out.below (g3.trans (g4.mono g3.size))) (HBB.out.below (g3.trans (g4.mono g3.size)))).mono ?_
    rintro e w5 ⟨A5, c5, rfl, _, _, hB5, hb5⟩
    have g5 := g4.trans (hb5.mono g4.size)
    have k5 := run_str hB5 c5
    rw [HLS.out] at k5
    have HB5 := Lib.hid hB5
    rw [HLS.out]
    clear hB5 hb5
    go_wp2_with fail
    refine hK.out _ _ g5 (fun _ => ?_)
    clear hK K
    refine wpAnyH_ready (rs := [8, 11]) (by kernel_rfl) (by simp) ?_
    refine (AllReadyH.cons (o := { dst := some 75, op := Op.convert 22 9 (Operand.tmp 74), type := 9, pos := "law.go:31", after := #[{ on := 7, ground := Ground.data }, { on := 4, ground := Ground.guard }], guard := some (4, false) }) rfl (fun K hK => ?_) (AllReadyH.cons (o := { dst := some 78, op := Op.call { callee := Callee.value (Operand.func 13), args := #[Operand.tmp 76, Operand.tmp 77], argTypes := #[3, 22] }, type := 22, pos := "law.go:31", after := #[{ on := 9, ground := Ground.data }, { on := 10, ground := Ground.data }, { on := 7, ground := Ground.chain }, { on := 4, ground := Ground.guard }], guard := some (4, false) }) rfl (fun K hK => ?_) AllReadyH.nil))
    · skip
      go_simp
      refine hK.out _ _ g5 (fun _ => ?_)
      clear hK K
      refine wpAnyH_ready (rs := [11]) (by kernel_rfl) (by simp) ?_
      refine (AllReadyH.cons (o := { dst := some 78, op := Op.call { callee := Callee.value (Operand.func 13), args := #[Operand.tmp 76, Operand.tmp 77], argTypes := #[3, 22] }, type := 22, pos := "law.go:31", after := #[{ on := 9, ground := Ground.data }, { on := 10, ground := Ground.data }, { on := 7, ground := Ground.chain }, { on := 4, ground := Ground.guard }], guard := some (4, false) }) rfl (fun K hK => ?_) AllReadyH.nil)
      go_simp
      refine (HRC.out w5 (HBB.out.below (g3.trans (g5.mono g3.size)))).mono ?_
      rintro e w6 ⟨A6, c6, rfl, _, _, hB6, hb6⟩
      have g6 := g5.trans (hb6.mono g5.size)
      have k6 := run_str hB6 c6
      have k5b := run_str (HB5.out.below hb6) c5
      rw [HLS.out] at k6 k5b
      rw [HLS.out]
      clear hB6 hb6
      go_wp2_with fail
      refine hK.out _ _ g6 (fun _ => ?_)
      clear hK K
      refine wpAnyH_ready (rs := [12]) (by kernel_rfl) (by simp) ?_
      refine (AllReadyH.cons (o := { dst := some 79, op := Op.convert 22 9 (Operand.tmp 78), type := 9, pos := "law.go:31", after := #[{ on := 11, ground := Ground.data }, { on := 4, ground := Ground.guard }], guard := some (4, false) }) rfl (fun K hK => ?_) AllReadyH.nil)
      go_simp
      refine hK.out _ _ g6 (fun _ => ?_)
      clear hK K
      refine wpAnyH_take (i := 13) (oi := { dst := some 80, op := Op.binOp BinOp.neq 9 (Operand.tmp 75) (Operand.tmp 79) 9, type := 4, pos := "law.go:31", after := #[{ on := 8, ground := Ground.data }, { on := 12, ground := Ground.data }, { on := 4, ground := Ground.guard }], guard := some (4, false) }) (v := ?va21) rfl (by kernel_rfl) (by kernel_rfl) (by kernel_rfl) (fun _ _ _ h => h) (Or.inl ⟨by rfl, ?ya21⟩) g6 ?_
      case ya21 =>
        intro w hSw
        go_simp; all_goals (with_reducible rfl)
      simp only [Act.put, List.setIfInBounds_toArray, List.set_cons_zero, List.set_cons_succ]
      refine wpAnyH_take (i := 14) (oi := { dst := some 81, op := Op.pick (Operand.tmp 71) (Operand.const (Value.bool true)) (Operand.tmp 80), type := 4, pos := "law.go:31", after := #[{ on := 4, ground := Ground.data }, { on := 13, ground := Ground.data }], guard := none }) (v := ?va22) rfl (by kernel_rfl) (by kernel_rfl) (by kernel_rfl) (fun _ _ _ h => h) (Or.inl ⟨by rfl, ?ya22⟩) g6 ?_
      case ya22 =>
        intro w hSw
        go_simp; all_goals (with_reducible rfl)
      simp only [Act.put, List.setIfInBounds_toArray, List.set_cons_zero, List.set_cons_succ]
      refine wpAnyH_take (i := 15) (oi := { dst := some 82, op := Op.move (Operand.tmp 81), type := 4, pos := "law.go:31", after := #[{ on := 14, ground := Ground.data }, { on := 11, ground := Ground.chain }], guard := none }) (v := ?va23) rfl (by kernel_rfl) (by kernel_rfl) (by kernel_rfl) (fun _ _ _ h => h) (Or.inl ⟨by rfl, ?ya23⟩) g6 ?_
      case ya23 =>
        intro w hSw
        go_simp; all_goals (with_reducible rfl)
      simp only [Act.put, List.setIfInBounds_toArray, List.set_cons_zero, List.set_cons_succ]
      refine wpAnyH_take (i := 16) (oi := { dst := some 83, op := Op.move (Operand.tmp 8), type := 22, pos := "law.go:31", after := #[{ on := 15, ground := Ground.guard }], guard := some (15, false) }) (v := ?va24) rfl (by kernel_rfl) (by kernel_rfl) (by kernel_rfl) (fun _ _ _ h => h) (Or.inl ⟨by rfl, ?ya24⟩) g6 ?_
      case ya24 =>
        intro w hSw
        go_simp; all_goals (with_reducible rfl)
      simp only [Act.put, List.setIfInBounds_toArray, List.set_cons_zero, List.set_cons_succ]
      refine wpAnyH_take (i := 17) (oi := { dst := some 84, op := Op.convert 22 9 (Operand.tmp 83), type := 9, pos := "law.go:31", after := #[{ on := 16, ground := Ground.data }, { on := 15, ground := Ground.guard }], guard := some (15, false) }) (v := ?va25) rfl (by kernel_rfl) (by kernel_rfl) (by kernel_rfl) (fun _ _ _ h => h) (Or.inl ⟨by rfl, ?ya25⟩) g6 ?_
      case ya25 =>
        intro w hSw
        have k := run_str (HX.out.below hSw) capx
        rw [HLH.out] at k
        go_simp; all_goals (with_reducible rfl)
      simp only [Act.put, List.setIfInBounds_toArray, List.set_cons_zero, List.set_cons_succ]
      refine wpAnyH_take (i := 18) (oi := { dst := some 85, op := Op.move (Operand.tmp 0), type := 3, pos := "law.go:31", after := #[{ on := 15, ground := Ground.guard }], guard := some (15, false) }) (v := ?va26) rfl (by kernel_rfl) (by kernel_rfl) (by kernel_rfl) (fun _ _ _ h => h) (Or.inl ⟨by rfl, ?ya26⟩) g6 ?_
      case ya26 =>
        intro w hSw
        go_simp; all_goals (with_reducible rfl)
      simp only [Act.put, List.setIfInBounds_toArray, List.set_cons_zero, List.set_cons_succ]
      refine wpAnyH_ready (rs := [19]) (by kernel_rfl) (by simp) ?_
      refine (AllReadyH.cons (o := { dst := some 86, op := Op.call { callee := Callee.value (Operand.func 14), args := #[Operand.tmp 85], argTypes := #[3] }, type := 22, pos := "law.go:31", after := #[{ on := 18, ground := Ground.data }, { on := 15, ground := Ground.chain }, { on := 15, ground := Ground.guard }], guard := some (15, false) }) rfl (fun K hK => ?_) AllReadyH.nil)
      go_simp
      refine (rhead_any b w6).mono ?_
      rintro e w7 hd
      obtain ⟨A7, c7, rfl, _, _, hB7, hb7⟩ := hd.bytes
      have g7 := g6.trans (hb7.mono g6.size)
      have k7 := run_str hB7 c7
      rw [HLH.out] at k7
      rw [HLH.out]
      clear hB7 hb7 hd
      go_wp2_with fail
      refine hK.out _ _ g7 (fun _ => ?_)
      clear hK K
      refine wpAnyH_ready (rs := [20]) (by kernel_rfl) (by simp) ?_
      refine (AllReadyH.cons (o := { dst := some 87, op := Op.convert 22 9 (Operand.tmp 86), type := 9, pos := "law.go:31", after := #[{ on := 19, ground := Ground.data }, { on := 15, ground := Ground.guard }], guard := some (15, false) }) rfl (fun K hK => ?_) AllReadyH.nil)
      go_simp
      refine hK.out _ _ g7 (fun _ => ?_)
      clear hK K
      refine wpAnyH_take (i := 21) (oi := { dst := some 88, op := Op.binOp BinOp.neq 9 (Operand.tmp 84) (Operand.tmp 87) 9, type := 4, pos := "law.go:31", after := #[{ on := 17, ground := Ground.data }, { on := 20, ground := Ground.data }, { on := 15, ground := Ground.guard }], guard := some (15, false) }) (v := ?va27) rfl (by kernel_rfl) (by kernel_rfl) (by kernel_rfl) (fun _ _ _ h => h) (Or.inl ⟨by rfl, ?ya27⟩) g7 ?_
      case ya27 =>
        intro w hSw
        go_simp; all_goals (with_reducible rfl)
      simp only [Act.put, List.setIfInBounds_toArray, List.set_cons_zero, List.set_cons_succ]
      refine wpAnyH_take (i := 22) (oi := { dst := some 89, op := Op.pick (Operand.tmp 82) (Operand.const (Value.bool true)) (Operand.tmp 88), type := 4, pos := "law.go:31", after := #[{ on := 15, ground := Ground.data }, { on := 21, ground := Ground.data }], guard := none }) (v := ?va28) rfl (by kernel_rfl) (by kernel_rfl) (by kernel_rfl) (fun _ _ _ h => h) (Or.inl ⟨by rfl, ?ya28⟩) g7 ?_
      case ya28 =>
        intro w hSw
        go_simp; all_goals (with_reducible rfl)
      simp only [Act.put, List.setIfInBounds_toArray, List.set_cons_zero, List.set_cons_succ]
      refine wpAnyH_take (i := 23) (oi := { dst := some 90, op := Op.move (Operand.tmp 89), type := 4, pos := "law.go:31", after := #[{ on := 22, ground := Ground.data }, { on := 19, ground := Ground.chain }], guard := none }) (v := ?va29) rfl (by kernel_rfl) (by kernel_rfl) (by kernel_rfl) (fun _ _ _ h => h) (Or.inl ⟨by rfl, ?ya29⟩) g7 ?_
      case ya29 =>
        intro w hSw
        go_simp; all_goals (with_reducible rfl)
      simp only [Act.put, List.setIfInBounds_toArray, List.set_cons_zero, List.set_cons_succ]
      refine wpAnyH_take (i := 24) (oi := { dst := some 91, op := Op.move (Operand.tmp 9), type := 25, pos := "law.go:31", after := #[{ on := 23, ground := Ground.guard }], guard := some (23, false) }) (v := ?va30) rfl (by kernel_rfl) (by kernel_rfl) (by kernel_rfl) (fun _ _ _ h => h) (Or.inl ⟨by rfl, ?ya30⟩) g7 ?_
      case ya30 =>
        intro w hSw
        go_simp; all_goals (with_reducible rfl)
      simp only [Act.put, List.setIfInBounds_toArray, List.set_cons_zero, List.set_cons_succ]
      refine wpAnyH_take (i := 25) (oi := { dst := some 92, op := Op.binOp BinOp.neq 25 (Operand.tmp 91) (Operand.const (Value.int IntKind.i64 0)) 25, type := 4, pos := "law.go:31", after := #[{ on := 24, ground := Ground.data }, { on := 23, ground := Ground.guard }], guard := some (23, false) }) (v := ?va31) rfl (by kernel_rfl) (by kernel_rfl) (by kernel_rfl) (fun _ _ _ h => h) (Or.inl ⟨by rfl, ?ya31⟩) g7 ?_
      case ya31 =>
        intro w hSw
        go_simp; all_goals (with_reducible rfl)
      simp only [Act.put, List.setIfInBounds_toArray, List.set_cons_zero, List.set_cons_succ]
      refine wpAnyH_take (i := 26) (oi := { dst := some 93, op := Op.pick (Operand.tmp 90) (Operand.const (Value.bool true)) (Operand.tmp 92), type := 4, pos := "law.go:31", after := #[{ on := 23, ground := Ground.data }, { on := 25, ground := Ground.data }], guard := none }) (v := ?va32) rfl (by kernel_rfl) (by kernel_rfl) (by kernel_rfl) (fun _ _ _ h => h) (Or.inl ⟨by rfl, ?ya32⟩) g7 ?_
      case ya32 =>
        intro w hSw
        go_simp; all_goals (with_reducible rfl)
      simp only [Act.put, List.setIfInBounds_toArray, List.set_cons_zero, List.set_cons_succ]
      refine wpAnyH_done (by kernel_rfl) ?_ _
      have gy := g3.trans (g7.mono g3.size)
      have HK := Lib.hid (fl_knows w7 (HT.out.below gy))
      clear g4 g5 g6 g7 hdr k5 k5b k6 k7 hS
      rcases size_bad s HS.out with h4 | ⟨h4, hm2⟩ | ⟨h4, hm2, hx2⟩
      · go_wp2_with ((with_reducible refine HK.out.mono ?_); rintro e w9 ⟨rfl, hb9⟩)
        go_ret
        exact ⟨rfl, gy.trans (hb9.mono gy.size)⟩
      · go_wp2_with ((with_reducible refine HK.out.mono ?_); rintro e w9 ⟨rfl, hb9⟩)
        go_ret
        exact ⟨rfl, gy.trans (hb9.mono gy.size)⟩
      · have hmb : (s % 4 == 0) = false := by simpa using hx2
        have hmb2 : (s % 4 != 0) = true := by simpa using hx2
        have hs0 : 0 ≤ s := by omega
        clear hx2
        go_wp2_with ((with_reducible refine HK.out.mono ?_); rintro e w9 ⟨rfl, hb9⟩)
        go_ret
        exact ⟨rfl, gy.trans (hb9.mono gy.size)⟩
    · skip
      go_simp
      refine (HRC.out w5 (HBB.out.below (g3.trans (g5.mono g3.size)))).mono ?_
      rintro e w6 ⟨A6, c6, rfl, _, _, hB6, hb6⟩
      have g6 := g5.trans (hb6.mono g5.size)
      have k6 := run_str hB6 c6
      have k5b := run_str (HB5.out.below hb6) c5
      rw [HLS.out] at k6 k5b
      rw [HLS.out]
      clear hB6 hb6
      go_wp2_with fail
      refine hK.out _ _ g6 (fun _ => ?_)
      clear hK K
      refine wpAnyH_ready (rs := [8, 12]) (by kernel_rfl) (by simp) ?_
      refine (AllReadyH.cons (o := { dst := some 75, op := Op.convert 22 9 (Operand.tmp 74), type := 9, pos := "law.go:31", after := #[{ on := 7, ground := Ground.data }, { on := 4, ground := Ground.guard }], guard := some (4, false) }) rfl (fun K hK => ?_) (AllReadyH.cons (o := { dst := some 79, op := Op.convert 22 9 (Operand.tmp 78), type := 9, pos := "law.go:31", after := #[{ on := 11, ground := Ground.data }, { on := 4, ground := Ground.guard }], guard := some (4, false) }) rfl (fun K hK => ?_) AllReadyH.nil))
      · skip
        go_simp
        refine hK.out _ _ g6 (fun _ => ?_)
        clear hK K
        refine wpAnyH_ready (rs := [12]) (by kernel_rfl) (by simp) ?_
        refine (AllReadyH.cons (o := { dst := some 79, op := Op.convert 22 9 (Operand.tmp 78), type := 9, pos := "law.go:31", after := #[{ on := 11, ground := Ground.data }, { on := 4, ground := Ground.guard }], guard := some (4, false) }) rfl (fun K hK => ?_) AllReadyH.nil)
        go_simp
        refine hK.out _ _ g6 (fun _ => ?_)
        clear hK K
        refine wpAnyH_take (i := 13) (oi := { dst := some 80, op := Op.binOp BinOp.neq 9 (Operand.tmp 75) (Operand.tmp 79) 9, type := 4, pos := "law.go:31", after := #[{ on := 8, ground := Ground.data }, { on := 12, ground := Ground.data }, { on := 4, ground := Ground.guard }], guard := some (4, false) }) (v := ?va33) rfl (by kernel_rfl) (by kernel_rfl) (by kernel_rfl) (fun _ _ _ h => h) (Or.inl ⟨by rfl, ?ya33⟩) g6 ?_
        case ya33 =>
          intro w hSw
          go_simp; all_goals (with_reducible rfl)
        simp only [Act.put, List.setIfInBounds_toArray, List.set_cons_zero, List.set_cons_succ]
        refine wpAnyH_take (i := 14) (oi := { dst := some 81, op := Op.pick (Operand.tmp 71) (Operand.const (Value.bool true)) (Operand.tmp 80), type := 4, pos := "law.go:31", after := #[{ on := 4, ground := Ground.data }, { on := 13, ground := Ground.data }], guard := none }) (v := ?va34) rfl (by kernel_rfl) (by kernel_rfl) (by kernel_rfl) (fun _ _ _ h => h) (Or.inl ⟨by rfl, ?ya34⟩) g6 ?_
        case ya34 =>
          intro w hSw
          go_simp; all_goals (with_reducible rfl)
        simp only [Act.put, List.setIfInBounds_toArray, List.set_cons_zero, List.set_cons_succ]
        refine wpAnyH_take (i := 15) (oi := { dst := some 82, op := Op.move (Operand.tmp 81), type := 4, pos := "law.go:31", after := #[{ on := 14, ground := Ground.data }, { on := 11, ground := Ground.chain }], guard := none }) (v := ?va35) rfl (by kernel_rfl) (by kernel_rfl) (by kernel_rfl) (fun _ _ _ h => h) (Or.inl ⟨by rfl, ?ya35⟩) g6 ?_
        case ya35 =>
          intro w hSw
          go_simp; all_goals (with_reducible rfl)
        simp only [Act.put, List.setIfInBounds_toArray, List.set_cons_zero, List.set_cons_succ]
        refine wpAnyH_take (i := 16) (oi := { dst := some 83, op := Op.move (Operand.tmp 8), type := 22, pos := "law.go:31", after := #[{ on := 15, ground := Ground.guard }], guard := some (15, false) }) (v := ?va36) rfl (by kernel_rfl) (by kernel_rfl) (by kernel_rfl) (fun _ _ _ h => h) (Or.inl ⟨by rfl, ?ya36⟩) g6 ?_
        case ya36 =>
          intro w hSw
          go_simp; all_goals (with_reducible rfl)
        simp only [Act.put, List.setIfInBounds_toArray, List.set_cons_zero, List.set_cons_succ]
        refine wpAnyH_take (i := 17) (oi := { dst := some 84, op := Op.convert 22 9 (Operand.tmp 83), type := 9, pos := "law.go:31", after := #[{ on := 16, ground := Ground.data }, { on := 15, ground := Ground.guard }], guard := some (15, false) }) (v := ?va37) rfl (by kernel_rfl) (by kernel_rfl) (by kernel_rfl) (fun _ _ _ h => h) (Or.inl ⟨by rfl, ?ya37⟩) g6 ?_
        case ya37 =>
          intro w hSw
          have k := run_str (HX.out.below hSw) capx
          rw [HLH.out] at k
          go_simp; all_goals (with_reducible rfl)
        simp only [Act.put, List.setIfInBounds_toArray, List.set_cons_zero, List.set_cons_succ]
        refine wpAnyH_take (i := 18) (oi := { dst := some 85, op := Op.move (Operand.tmp 0), type := 3, pos := "law.go:31", after := #[{ on := 15, ground := Ground.guard }], guard := some (15, false) }) (v := ?va38) rfl (by kernel_rfl) (by kernel_rfl) (by kernel_rfl) (fun _ _ _ h => h) (Or.inl ⟨by rfl, ?ya38⟩) g6 ?_
        case ya38 =>
          intro w hSw
          go_simp; all_goals (with_reducible rfl)
        simp only [Act.put, List.setIfInBounds_toArray, List.set_cons_zero, List.set_cons_succ]
        refine wpAnyH_ready (rs := [19]) (by kernel_rfl) (by simp) ?_
        refine (AllReadyH.cons (o := { dst := some 86, op := Op.call { callee := Callee.value (Operand.func 14), args := #[Operand.tmp 85], argTypes := #[3] }, type := 22, pos := "law.go:31", after := #[{ on := 18, ground := Ground.data }, { on := 15, ground := Ground.chain }, { on := 15, ground := Ground.guard }], guard := some (15, false) }) rfl (fun K hK => ?_) AllReadyH.nil)
        go_simp
        refine (rhead_any b w6).mono ?_
        rintro e w7 hd
        obtain ⟨A7, c7, rfl, _, _, hB7, hb7⟩ := hd.bytes
        have g7 := g6.trans (hb7.mono g6.size)
        have k7 := run_str hB7 c7
        rw [HLH.out] at k7
        rw [HLH.out]
        clear hB7 hb7 hd
        go_wp2_with fail
        refine hK.out _ _ g7 (fun _ => ?_)
        clear hK K
        refine wpAnyH_ready (rs := [20]) (by kernel_rfl) (by simp) ?_
        refine (AllReadyH.cons (o := { dst := some 87, op := Op.convert 22 9 (Operand.tmp 86), type := 9, pos := "law.go:31", after := #[{ on := 19, ground := Ground.data }, { on := 15, ground := Ground.guard }], guard := some (15, false) }) rfl (fun K hK => ?_) AllReadyH.nil)
        go_simp
        refine hK.out _ _ g7 (fun _ => ?_)
        clear hK K
        refine wpAnyH_take (i := 21) (oi := { dst := some 88, op := Op.binOp BinOp.neq 9 (Operand.tmp 84) (Operand.tmp 87) 9, type := 4, pos := "law.go:31", after := #[{ on := 17, ground := Ground.data }, { on := 20, ground := Ground.data }, { on := 15, ground := Ground.guard }], guard := some (15, false) }) (v := ?va39) rfl (by kernel_rfl) (by kernel_rfl) (by kernel_rfl) (fun _ _ _ h => h) (Or.inl ⟨by rfl, ?ya39⟩) g7 ?_
        case ya39 =>
          intro w hSw
          go_simp; all_goals (with_reducible rfl)
        simp only [Act.put, List.setIfInBounds_toArray, List.set_cons_zero, List.set_cons_succ]
        refine wpAnyH_take (i := 22) (oi := { dst := some 89, op := Op.pick (Operand.tmp 82) (Operand.const (Value.bool true)) (Operand.tmp 88), type := 4, pos := "law.go:31", after := #[{ on := 15, ground := Ground.data }, { on := 21, ground := Ground.data }], guard := none }) (v := ?va40) rfl (by kernel_rfl) (by kernel_rfl) (by kernel_rfl) (fun _ _ _ h => h) (Or.inl ⟨by rfl, ?ya40⟩) g7 ?_
        case ya40 =>
          intro w hSw
          go_simp; all_goals (with_reducible rfl)
        simp only [Act.put, List.setIfInBounds_toArray, List.set_cons_zero, List.set_cons_succ]
        refine wpAnyH_take (i := 23) (oi := { dst := some 90, op := Op.move (Operand.tmp 89), type := 4, pos := "law.go:31", after := #[{ on := 22, ground := Ground.data }, { on := 19, ground := Ground.chain }], guard := none }) (v := ?va41) rfl (by kernel_rfl) (by kernel_rfl) (by kernel_rfl) (fun _ _ _ h => h) (Or.inl ⟨by rfl, ?ya41⟩) g7 ?_
        case ya41 =>
          intro w hSw
          go_simp; all_goals (with_reducible rfl)
        simp only [Act.put, List.setIfInBounds_toArray, List.set_cons_zero, List.set_cons_succ]
        refine wpAnyH_take (i := 24) (oi := { dst := some 91, op := Op.move (Operand.tmp 9), type := 25, pos := "law.go:31", after := #[{ on := 23, ground := Ground.guard }], guard := some (23, false) }) (v := ?va42) rfl (by kernel_rfl) (by kernel_rfl) (by kernel_rfl) (fun _ _ _ h => h) (Or.inl ⟨by rfl, ?ya42⟩) g7 ?_
        case ya42 =>
          intro w hSw
          go_simp; all_goals (with_reducible rfl)
        simp only [Act.put, List.setIfInBounds_toArray, List.set_cons_zero, List.set_cons_succ]
        refine wpAnyH_take (i := 25) (oi := { dst := some 92, op := Op.binOp BinOp.neq 25 (Operand.tmp 91) (Operand.const (Value.int IntKind.i64 0)) 25, type := 4, pos := "law.go:31", after := #[{ on := 24, ground := Ground.data }, { on := 23, ground := Ground.guard }], guard := some (23, false) }) (v := ?va43) rfl (by kernel_rfl) (by kernel_rfl) (by kernel_rfl) (fun _ _ _ h => h) (Or.inl ⟨by rfl, ?ya43⟩) g7 ?_
        case ya43 =>
          intro w hSw
          go_simp; all_goals (with_reducible rfl)
        simp only [Act.put, List.setIfInBounds_toArray, List.set_cons_zero, List.set_cons_succ]
        refine wpAnyH_take (i := 26) (oi := { dst := some 93, op := Op.pick (Operand.tmp 90) (Operand.const (Value.bool true)) (Operand.tmp 92), type := 4, pos := "law.go:31", after := #[{ on := 23, ground := Ground.data }, { on := 25, ground := Ground.data }], guard := none }) (v := ?va44) rfl (by kernel_rfl) (by kernel_rfl) (by kernel_rfl) (fun _ _ _ h => h) (Or.inl ⟨by rfl, ?ya44⟩) g7 ?_
        case ya44 =>
          intro w hSw
          go_simp; all_goals (with_reducible rfl)
        simp only [Act.put, List.setIfInBounds_toArray, List.set_cons_zero, List.set_cons_succ]
        refine wpAnyH_done (by kernel_rfl) ?_ _
        have gy := g3.trans (g7.mono g3.size)
        have HK := Lib.hid (fl_knows w7 (HT.out.below gy))
        clear g4 g5 g6 g7 hdr k5 k5b k6 k7 hS
        rcases size_bad s HS.out with h4 | ⟨h4, hm2⟩ | ⟨h4, hm2, hx2⟩
        · go_wp2_with ((with_reducible refine HK.out.mono ?_); rintro e w9 ⟨rfl, hb9⟩)
          go_ret
          exact ⟨rfl, gy.trans (hb9.mono gy.size)⟩
        · go_wp2_with ((with_reducible refine HK.out.mono ?_); rintro e w9 ⟨rfl, hb9⟩)
          go_ret
          exact ⟨rfl, gy.trans (hb9.mono gy.size)⟩
        · have hmb : (s % 4 == 0) = false := by simpa using hx2
          have hmb2 : (s % 4 != 0) = true := by simpa using hx2
          have hs0 : 0 ≤ s := by omega
          clear hx2
          go_wp2_with ((with_reducible refine HK.out.mono ?_); rintro e w9 ⟨rfl, hb9⟩)
          go_ret
          exact ⟨rfl, gy.trans (hb9.mono gy.size)⟩
      · skip
        go_simp
        refine hK.out _ _ g6 (fun _ => ?_)
        clear hK K
        refine wpAnyH_ready (rs := [8]) (by kernel_rfl) (by simp) ?_
        refine (AllReadyH.cons (o := { dst := some 75, op := Op.convert 22 9 (Operand.tmp 74), type := 9, pos := "law.go:31", after := #[{ on := 7, ground := Ground.data }, { on := 4, ground := Ground.guard }], guard := some (4, false) }) rfl (fun K hK => ?_) AllReadyH.nil)
        go_simp
        refine hK.out _ _ g6 (fun _ => ?_)
        clear hK K
        refine wpAnyH_take (i := 13) (oi := { dst := some 80, op := Op.binOp BinOp.neq 9 (Operand.tmp 75) (Operand.tmp 79) 9, type := 4, pos := "law.go:31", after := #[{ on := 8, ground := Ground.data }, { on := 12, ground := Ground.data }, { on := 4, ground := Ground.guard }], guard := some (4, false) }) (v := ?va45) rfl (by kernel_rfl) (by kernel_rfl) (by kernel_rfl) (fun _ _ _ h => h) (Or.inl ⟨by rfl, ?ya45⟩) g6 ?_
        case ya45 =>
          intro w hSw
          go_simp; all_goals (with_reducible rfl)
        simp only [Act.put, List.setIfInBounds_toArray, List.set_cons_zero, List.set_cons_succ]
        refine wpAnyH_take (i := 14) (oi := { dst := some 81, op := Op.pick (Operand.tmp 71) (Operand.const (Value.bool true)) (Operand.tmp 80), type := 4, pos := "law.go:31", after := #[{ on := 4, ground := Ground.data }, { on := 13, ground := Ground.data }], guard := none }) (v := ?va46) rfl (by kernel_rfl) (by kernel_rfl) (by kernel_rfl) (fun _ _ _ h => h) (Or.inl ⟨by rfl, ?ya46⟩) g6 ?_
        case ya46 =>
          intro w hSw
          go_simp; all_goals (with_reducible rfl)
        simp only [Act.put, List.setIfInBounds_toArray, List.set_cons_zero, List.set_cons_succ]
        refine wpAnyH_take (i := 15) (oi := { dst := some 82, op := Op.move (Operand.tmp 81), type := 4, pos := "law.go:31", after := #[{ on := 14, ground := Ground.data }, { on := 11, ground := Ground.chain }], guard := none }) (v := ?va47) rfl (by kernel_rfl) (by kernel_rfl) (by kernel_rfl) (fun _ _ _ h => h) (Or.inl ⟨by rfl, ?ya47⟩) g6 ?_
        case ya47 =>
          intro w hSw
          go_simp; all_goals (with_reducible rfl)
        simp only [Act.put, List.setIfInBounds_toArray, List.set_cons_zero, List.set_cons_succ]
        refine wpAnyH_take (i := 16) (oi := { dst := some 83, op := Op.move (Operand.tmp 8), type := 22, pos := "law.go:31", after := #[{ on := 15, ground := Ground.guard }], guard := some (15, false) }) (v := ?va48) rfl (by kernel_rfl) (by kernel_rfl) (by kernel_rfl) (fun _ _ _ h => h) (Or.inl ⟨by rfl, ?ya48⟩) g6 ?_
        case ya48 =>
          intro w hSw
          go_simp; all_goals (with_reducible rfl)
        simp only [Act.put, List.setIfInBounds_toArray, List.set_cons_zero, List.set_cons_succ]
        refine wpAnyH_take (i := 17) (oi := { dst := some 84, op := Op.convert 22 9 (Operand.tmp 83), type := 9, pos := "law.go:31", after := #[{ on := 16, ground := Ground.data }, { on := 15, ground := Ground.guard }], guard := some (15, false) }) (v := ?va49) rfl (by kernel_rfl) (by kernel_rfl) (by kernel_rfl) (fun _ _ _ h => h) (Or.inl ⟨by rfl, ?ya49⟩) g6 ?_
        case ya49 =>
          intro w hSw
          have k := run_str (HX.out.below hSw) capx
          rw [HLH.out] at k
          go_simp; all_goals (with_reducible rfl)
        simp only [Act.put, List.setIfInBounds_toArray, List.set_cons_zero, List.set_cons_succ]
        refine wpAnyH_take (i := 18) (oi := { dst := some 85, op := Op.move (Operand.tmp 0), type := 3, pos := "law.go:31", after := #[{ on := 15, ground := Ground.guard }], guard := some (15, false) }) (v := ?va50) rfl (by kernel_rfl) (by kernel_rfl) (by kernel_rfl) (fun _ _ _ h => h) (Or.inl ⟨by rfl, ?ya50⟩) g6 ?_
        case ya50 =>
          intro w hSw
          go_simp; all_goals (with_reducible rfl)
        simp only [Act.put, List.setIfInBounds_toArray, List.set_cons_zero, List.set_cons_succ]
        refine wpAnyH_ready (rs := [19]) (by kernel_rfl) (by simp) ?_
        refine (AllReadyH.cons (o := { dst := some 86, op := Op.call { callee := Callee.value (Operand.func 14), args := #[Operand.tmp 85], argTypes := #[3] }, type := 22, pos := "law.go:31", after := #[{ on := 18, ground := Ground.data }, { on := 15, ground := Ground.chain }, { on := 15, ground := Ground.guard }], guard := some (15, false) }) rfl (fun K hK => ?_) AllReadyH.nil)
        go_simp
        refine (rhead_any b w6).mono ?_
        rintro e w7 hd
        obtain ⟨A7, c7, rfl, _, _, hB7, hb7⟩ := hd.bytes
        have g7 := g6.trans (hb7.mono g6.size)
        have k7 := run_str hB7 c7
        rw [HLH.out] at k7
        rw [HLH.out]
        clear hB7 hb7 hd
        go_wp2_with fail
        refine hK.out _ _ g7 (fun _ => ?_)
        clear hK K
        refine wpAnyH_ready (rs := [20]) (by kernel_rfl) (by simp) ?_
        refine (AllReadyH.cons (o := { dst := some 87, op := Op.convert 22 9 (Operand.tmp 86), type := 9, pos := "law.go:31", after := #[{ on := 19, ground := Ground.data }, { on := 15, ground := Ground.guard }], guard := some (15, false) }) rfl (fun K hK => ?_) AllReadyH.nil)
        go_simp
        refine hK.out _ _ g7 (fun _ => ?_)
        clear hK K
        refine wpAnyH_take (i := 21) (oi := { dst := some 88, op := Op.binOp BinOp.neq 9 (Operand.tmp 84) (Operand.tmp 87) 9, type := 4, pos := "law.go:31", after := #[{ on := 17, ground := Ground.data }, { on := 20, ground := Ground.data }, { on := 15, ground := Ground.guard }], guard := some (15, false) }) (v := ?va51) rfl (by kernel_rfl) (by kernel_rfl) (by kernel_rfl) (fun _ _ _ h => h) (Or.inl ⟨by rfl, ?ya51⟩) g7 ?_
        case ya51 =>
          intro w hSw
          go_simp; all_goals (with_reducible rfl)
        simp only [Act.put, List.setIfInBounds_toArray, List.set_cons_zero, List.set_cons_succ]
        refine wpAnyH_take (i := 22) (oi := { dst := some 89, op := Op.pick (Operand.tmp 82) (Operand.const (Value.bool true)) (Operand.tmp 88), type := 4, pos := "law.go:31", after := #[{ on := 15, ground := Ground.data }, { on := 21, ground := Ground.data }], guard := none }) (v := ?va52) rfl (by kernel_rfl) (by kernel_rfl) (by kernel_rfl) (fun _ _ _ h => h) (Or.inl ⟨by rfl, ?ya52⟩) g7 ?_
        case ya52 =>
          intro w hSw
          go_simp; all_goals (with_reducible rfl)
        simp only [Act.put, List.setIfInBounds_toArray, List.set_cons_zero, List.set_cons_succ]
        refine wpAnyH_take (i := 23) (oi := { dst := some 90, op := Op.move (Operand.tmp 89), type := 4, pos := "law.go:31", after := #[{ on := 22, ground := Ground.data }, { on := 19, ground := Ground.chain }], guard := none }) (v := ?va53) rfl (by kernel_rfl) (by kernel_rfl) (by kernel_rfl) (fun _ _ _ h => h) (Or.inl ⟨by rfl, ?ya53⟩) g7 ?_
        case ya53 =>
          intro w hSw
          go_simp; all_goals (with_reducible rfl)
        simp only [Act.put, List.setIfInBounds_toArray, List.set_cons_zero, List.set_cons_succ]
        refine wpAnyH_take (i := 24) (oi := { dst := some 91, op := Op.move (Operand.tmp 9), type := 25, pos := "law.go:31", after := #[{ on := 23, ground := Ground.guard }], guard := some (23, false) }) (v := ?va54) rfl (by kernel_rfl) (by kernel_rfl) (by kernel_rfl) (fun _ _ _ h => h) (Or.inl ⟨by rfl, ?ya54⟩) g7 ?_
        case ya54 =>
          intro w hSw
          go_simp; all_goals (with_reducible rfl)
        simp only [Act.put, List.setIfInBounds_toArray, List.set_cons_zero, List.set_cons_succ]
        refine wpAnyH_take (i := 25) (oi := { dst := some 92, op := Op.binOp BinOp.neq 25 (Operand.tmp 91) (Operand.const (Value.int IntKind.i64 0)) 25, type := 4, pos := "law.go:31", after := #[{ on := 24, ground := Ground.data }, { on := 23, ground := Ground.guard }], guard := some (23, false) }) (v := ?va55) rfl (by kernel_rfl) (by kernel_rfl) (by kernel_rfl) (fun _ _ _ h => h) (Or.inl ⟨by rfl, ?ya55⟩) g7 ?_
        case ya55 =>
          intro w hSw
          go_simp; all_goals (with_reducible rfl)
        simp only [Act.put, List.setIfInBounds_toArray, List.set_cons_zero, List.set_cons_succ]
        refine wpAnyH_take (i := 26) (oi := { dst := some 93, op := Op.pick (Operand.tmp 90) (Operand.const (Value.bool true)) (Operand.tmp 92), type := 4, pos := "law.go:31", after := #[{ on := 23, ground := Ground.data }, { on := 25, ground := Ground.data }], guard := none }) (v := ?va56) rfl (by kernel_rfl) (by kernel_rfl) (by kernel_rfl) (fun _ _ _ h => h) (Or.inl ⟨by rfl, ?ya56⟩) g7 ?_
        case ya56 =>
          intro w hSw
          go_simp; all_goals (with_reducible rfl)
        simp only [Act.put, List.setIfInBounds_toArray, List.set_cons_zero, List.set_cons_succ]
        refine wpAnyH_done (by kernel_rfl) ?_ _
        have gy := g3.trans (g7.mono g3.size)
        have HK := Lib.hid (fl_knows w7 (HT.out.below gy))
        clear g4 g5 g6 g7 hdr k5 k5b k6 k7 hS
        rcases size_bad s HS.out with h4 | ⟨h4, hm2⟩ | ⟨h4, hm2, hx2⟩
        · go_wp2_with ((with_reducible refine HK.out.mono ?_); rintro e w9 ⟨rfl, hb9⟩)
          go_ret
          exact ⟨rfl, gy.trans (hb9.mono gy.size)⟩
        · go_wp2_with ((with_reducible refine HK.out.mono ?_); rintro e w9 ⟨rfl, hb9⟩)
          go_ret
          exact ⟨rfl, gy.trans (hb9.mono gy.size)⟩
        · have hmb : (s % 4 == 0) = false := by simpa using hx2
          have hmb2 : (s % 4 != 0) = true := by simpa using hx2
          have hs0 : 0 ≤ s := by omega
          clear hx2
          go_wp2_with ((with_reducible refine HK.out.mono ?_); rintro e w9 ⟨rfl, hb9⟩)
          go_ret
          exact ⟨rfl, gy.trans (hb9.mono gy.size)⟩
  | true =>
    obtain ⟨h4, hsm, hmod⟩ := sizeOk_cases s hs
    obtain ⟨n, hn⟩ : ∃ n : Nat, (n : Int) = s / 4 - 1 := ⟨(s / 4 - 1).toNat, by omega⟩
    have HSN : Hid (s = 4 * ((n : Int) + 1)) := Lib.hid (by omega)
    have HNN : Hid (n < 4294967296) := Lib.hid (by omega)
    have H3 := Lib.hid (fun w' ht => foot_yes b n s HSN.out HNN.out w' ht hf)
    have HLF := Lib.hid (footL_length b n)
    have HMB : Hid ((s % 4 == 0) = true ∧ (s % 4 != 0) = false) := Lib.hid ⟨by simpa using hmod, by simpa using hmod⟩
    have hs0 : 0 ≤ s := by omega
    clear hf hs hmod hn
    go_enter Tryd.func3, Tryd.ntmps3
    go_wp2_with fail
    refine H1.out.mono ?_
    rintro e _ ⟨rfl, rfl⟩
    go_wp2_with fail
    refine H2.out.mono ?_
    rintro e w1 ⟨gx, capx, rfl, _, _, _, hgx, hFx, hb1⟩
    have hX1 := hFx.bytes hgx
    have H3' := Lib.hid (H3.out w1 (HT.out.below hb1))
    rw [HLH.out]
    go_wp2_with fail
    refine H3'.out.mono ?_
    rintro e w2 ⟨gy, capy, rfl, _, _, _, hgy, hFy, hb2⟩
    have g2 := hb1.trans (hb2.mono hb1.size)
    have hX2 := hX1.below hb2
    have hY2 := hFy.bytes hgy
    rw [HLF.out]
    clear hb1 hb2 hX1 hFx hgx hFy hgy
    go_wp2_with fail
    refine (H4.out w2).mono ?_
    rintro e w3 ⟨rfl, hb3⟩
    have g3 := g2.trans (hb3.mono g2.size)
    have HX := Lib.hid (hX2.below hb3)
    have HY3 := Lib.hid (hY2.below hb3)
    clear g2 hb3 hX2 hY2
    go_wp2_with fail
    have hdr : Below w3.heap.size w3 w3.drew := below_drew w3
    refine wp_region_held_drew (S := fun w' => Below w3.heap.size w3 w') (by kernel_rfl) hdr (fun hS => ?_)
    refine wpAnyH_take (i := 0) (oi := { dst := some 67, op := Op.move (Operand.tmp 0), type := 3, pos := "law.go:31", after := #[], guard := none }) (v := ?vb57) rfl (by kernel_rfl) (by kernel_rfl) (by kernel_rfl) (fun _ _ _ h => h) (Or.inl ⟨by rfl, ?yb57⟩) hS ?_
    case yb57 =>
      intro w hSw
      go_simp; all_goals (with_reducible rfl)
    simp only [Act.put, List.setIfInBounds_toArray, List.set_cons_zero, List.set_cons_succ]
    refine wpAnyH_take (i := 2) (oi := { dst := some 69, op := Op.move (Operand.tmp 7), type := 3, pos := "law.go:31", after := #[], guard := none }) (v := ?vb58) rfl (by kernel_rfl) (by kernel_rfl) (by kernel_rfl) (fun _ _ _ h => h) (Or.inl ⟨by rfl, ?yb58⟩) hS ?_
    case yb58 =>
      intro w hSw
      go_simp; all_goals (with_reducible rfl)
    simp only [Act.put, List.setIfInBounds_toArray, List.set_cons_zero, List.set_cons_succ]
    refine wpAnyH_ready (rs := [1]) (by kernel_rfl) (by simp) ?_
    refine (AllReadyH.cons (o := { dst := some 68, op := Op.call { callee := Callee.value (Operand.func 11), args := #[Operand.tmp 67], argTypes := #[3] }, type := 3, pos := "law.go:31", after := #[{ on := 0, ground := Ground.data }], guard := none }) rfl (fun K hK => ?_) AllReadyH.nil)
    go_simp
    refine (size_any (b.toNat : Nat) w3.drew (HT.out.below (g3.trans (hdr.mono g3.size)))).mono ?_
    rintro e w4 ⟨rfl, hb4⟩
    have g4 := hdr.trans (hb4.mono hdr.size)
    rw [HSZ.out]
    clear hb4
    go_wp2_with fail
    refine hK.out _ _ g4 (fun _ => ?_)
    clear hK K
    refine wpAnyH_take (i := 3) (oi := { dst := some 70, op := Op.binOp BinOp.neq 3 (Operand.tmp 68) (Operand.tmp 69) 3, type := 4, pos := "law.go:31", after := #[{ on := 1, ground := Ground.data }, { on := 2, ground := Ground.data }], guard := none }) (v := ?vb59) rfl (by kernel_rfl) (by kernel_rfl) (by kernel_rfl) (fun _ _ _ h => h) (Or.inl ⟨by rfl, ?yb59⟩) g4 ?_
    case yb59 =>
      intro w hSw
      go_simp; all_goals (with_reducible rfl)
    simp only [Act.put, List.setIfInBounds_toArray, List.set_cons_zero, List.set_cons_succ]
    refine wpAnyH_take (i := 4) (oi := { dst := some 71, op := Op.move (Operand.tmp 70), type := 4, pos := "law.go:31", after := #[{ on := 3, ground := Ground.data }, { on := 1, ground := Ground.chain }], guard := none }) (v := ?vb60) rfl (by kernel_rfl) (by kernel_rfl) (by kernel_rfl) (fun _ _ _ h => h) (Or.inl ⟨by rfl, ?yb60⟩) g4 ?_
    case yb60 =>
      intro w hSw
      go_simp; all_goals (with_reducible rfl)
    simp only [Act.put, List.setIfInBounds_toArray, List.set_cons_zero, List.set_cons_succ]
    refine wpAnyH_take (i := 5) (oi := { dst := some 72, op := Op.move (Operand.tmp 0), type := 3, pos := "law.go:31", after := #[{ on := 4, ground := Ground.guard }], guard := some (4, false) }) (v := ?vb61) rfl (by kernel_rfl) (by kernel_rfl) (by kernel_rfl) (fun _ _ _ h => h) (Or.inl ⟨by rfl, ?yb61⟩) g4 ?_
    case yb61 =>
      intro w hSw
      go_simp; all_goals (with_reducible rfl)
    simp only [Act.put, List.setIfInBounds_toArray, List.set_cons_zero, List.set_cons_succ]
    refine wpAnyH_take (i := 6) (oi := { dst := some 73, op := Op.move (Operand.tmp 1), type := 22, pos := "law.go:31", after := #[{ on := 4, ground := Ground.guard }], guard := some (4, false) }) (v := ?vb62) rfl (by kernel_rfl) (by kernel_rfl) (by kernel_rfl) (fun _ _ _ h => h) (Or.inl ⟨by rfl, ?yb62⟩) g4 ?_
    case yb62 =>
      intro w hSw
      go_simp; all_goals (with_reducible rfl)
    simp only [Act.put, List.setIfInBounds_toArray, List.set_cons_zero, List.set_cons_succ]
    refine wpAnyH_take (i := 9) (oi := { dst := some 76, op := Op.move (Operand.tmp 0), type := 3, pos := "law.go:31", after := #[{ on := 4, ground := Ground.guard }], guard := some (4, false) }) (v := ?vb63) rfl (by kernel_rfl) (by kernel_rfl) (by kernel_rfl) (fun _ _ _ h => h) (Or.inl ⟨by rfl, ?yb63⟩) g4 ?_
    case yb63 =>
      intro w hSw
      go_simp; all_goals (with_reducible rfl)
    simp only [Act.put, List.setIfInBounds_toArray, List.set_cons_zero, List.set_cons_succ]
    refine wpAnyH_take (i := 10) (oi := { dst := some 77, op := Op.move (Operand.tmp 1), type := 22, pos := "law.go:31", after := #[{ on := 4, ground := Ground.guard }], guard := some (4, false) }) (v := ?vb64) rfl (by kernel_rfl) (by kernel_rfl) (by kernel_rfl) (fun _ _ _ h => h) (Or.inl ⟨by rfl, ?yb64⟩) g4 ?_
    case yb64 =>
      intro w hSw
      go_simp; all_goals (with_reducible rfl)
    simp only [Act.put, List.setIfInBounds_toArray, List.set_cons_zero, List.set_cons_succ]
    refine wpAnyH_ready (rs := [7]) (by kernel_rfl) (by simp) ?_
    refine (AllReadyH.cons (o := { dst := some 74, op := Op.call { callee := Callee.value (Operand.func 12), args := #[Operand.tmp 72, Operand.tmp 73], argTypes := #[3, 22] }, type := 22, pos := "law.go:31", after := #[{ on := 5, ground := Ground.data }, { on := 6, ground := Ground.data }, { on := 4, ground := Ground.chain }, { on := 4, ground := Ground.guard }], guard := some (4, false) }) rfl (fun K hK => ?_) AllReadyH.nil)
    go_simp
    refine (HCK.out w4 (HT.out.below (g3.trans (g4.mono g3.size))) (HBB.out.below (g3.trans (g4.mono g3.size)))).mono ?_
    rintro e w5 ⟨A5, c5, rfl, _, _, hB5, hb5⟩
    have g5 := g4.trans (hb5.mono g4.size)
    have k5 := run_str hB5 c5
    rw [HLS.out] at k5
    have HB5 := Lib.hid hB5
    rw [HLS.out]
    clear hB5 hb5
    go_wp2_with fail
    refine hK.out _ _ g5 (fun _ => ?_)
    clear hK K
    refine wpAnyH_ready (rs := [8, 11]) (by kernel_rfl) (by simp) ?_
    refine (AllReadyH.cons (o := { dst := some 75, op := Op.convert 22 9 (Operand.tmp 74), type := 9, pos := "law.go:31", after := #[{ on := 7, ground := Ground.data }, { on := 4, ground := Ground.guard }], guard := some (4, false) }) rfl (fun K hK => ?_) (AllReadyH.cons (o := { dst := some 78, op := Op.call { callee := Callee.value (Operand.func 13), args := #[Operand.tmp 76, Operand.tmp 77], argTypes := #[3, 22] }, type := 22, pos := "law.go:31", after := #[{ on := 9, ground := Ground.data }, { on := 10, ground := Ground.data }, { on := 7, ground := Ground.chain }, { on := 4, ground := Ground.guard }], guard := some (4, false) }) rfl (fun K hK => ?_) AllReadyH.nil))
    · skip
      go_simp
      refine hK.out _ _ g5 (fun _ => ?_)
      clear hK K
      refine wpAnyH_ready (rs := [11]) (by kernel_rfl) (by simp) ?_
      refine (AllReadyH.cons (o := { dst := some 78, op := Op.call { callee := Callee.value (Operand.func 13), args := #[Operand.tmp 76, Operand.tmp 77], argTypes := #[3, 22] }, type := 22, pos := "law.go:31", after := #[{ on := 9, ground := Ground.data }, { on := 10, ground := Ground.data }, { on := 7, ground := Ground.chain }, { on := 4, ground := Ground.guard }], guard := some (4, false) }) rfl (fun K hK => ?_) AllReadyH.nil)
      go_simp
      refine (HRC.out w5 (HBB.out.below (g3.trans (g5.mono g3.size)))).mono ?_
      rintro e w6 ⟨A6, c6, rfl, _, _, hB6, hb6⟩
      have g6 := g5.trans (hb6.mono g5.size)
      have k6 := run_str hB6 c6
      have k5b := run_str (HB5.out.below hb6) c5
      rw [HLS.out] at k6 k5b
      rw [HLS.out]
      clear hB6 hb6
      go_wp2_with fail
      refine hK.out _ _ g6 (fun _ => ?_)
      clear hK K
      refine wpAnyH_ready (rs := [12]) (by kernel_rfl) (by simp) ?_
      refine (AllReadyH.cons (o := { dst := some 79, op := Op.convert 22 9 (Operand.tmp 78), type := 9, pos := "law.go:31", after := #[{ on := 11, ground := Ground.data }, { on := 4, ground := Ground.guard }], guard := some (4, false) }) rfl (fun K hK => ?_) AllReadyH.nil)
      go_simp
      refine hK.out _ _ g6 (fun _ => ?_)
      clear hK K
      refine wpAnyH_take (i := 13) (oi := { dst := some 80, op := Op.binOp BinOp.neq 9 (Operand.tmp 75) (Operand.tmp 79) 9, type := 4, pos := "law.go:31", after := #[{ on := 8, ground := Ground.data }, { on := 12, ground := Ground.data }, { on := 4, ground := Ground.guard }], guard := some (4, false) }) (v := ?vb65) rfl (by kernel_rfl) (by kernel_rfl) (by kernel_rfl) (fun _ _ _ h => h) (Or.inl ⟨by rfl, ?yb65⟩) g6 ?_
      case yb65 =>
        intro w hSw
        go_simp; all_goals (with_reducible rfl)
      simp only [Act.put, List.setIfInBounds_toArray, List.set_cons_zero, List.set_cons_succ]
      refine wpAnyH_take (i := 14) (oi := { dst := some 81, op := Op.pick (Operand.tmp 71) (Operand.const (Value.bool true)) (Operand.tmp 80), type := 4, pos := "law.go:31", after := #[{ on := 4, ground := Ground.data }, { on := 13, ground := Ground.data }], guard := none }) (v := ?vb66) rfl (by kernel_rfl) (by kernel_rfl) (by kernel_rfl) (fun _ _ _ h => h) (Or.inl ⟨by rfl, ?yb66⟩) g6 ?_
      case yb66 =>
        intro w hSw
        go_simp; all_goals (with_reducible rfl)
      simp only [Act.put, List.setIfInBounds_toArray, List.set_cons_zero, List.set_cons_succ]
      refine wpAnyH_take (i := 15) (oi := { dst := some 82, op := Op.move (Operand.tmp 81), type := 4, pos := "law.go:31", after := #[{ on := 14, ground := Ground.data }, { on := 11, ground := Ground.chain }], guard := none }) (v := ?vb67) rfl (by kernel_rfl) (by kernel_rfl) (by kernel_rfl) (fun _ _ _ h => h) (Or.inl ⟨by rfl, ?yb67⟩) g6 ?_
      case yb67 =>
        intro w hSw
        go_simp; all_goals (with_reducible rfl)
      simp only [Act.put, List.setIfInBounds_toArray, List.set_cons_zero, List.set_cons_succ]
      refine wpAnyH_take (i := 16) (oi := { dst := some 83, op := Op.move (Operand.tmp 8), type := 22, pos := "law.go:31", after := #[{ on := 15, ground := Ground.guard }], guard := some (15, false) }) (v := ?vb68) rfl (by kernel_rfl) (by kernel_rfl) (by kernel_rfl) (fun _ _ _ h => h) (Or.inl ⟨by rfl, ?yb68⟩) g6 ?_
      case yb68 =>
        intro w hSw
        go_simp; all_goals (with_reducible rfl)
      simp only [Act.put, List.setIfInBounds_toArray, List.set_cons_zero, List.set_cons_succ]
      refine wpAnyH_take (i := 17) (oi := { dst := some 84, op := Op.convert 22 9 (Operand.tmp 83), type := 9, pos := "law.go:31", after := #[{ on := 16, ground := Ground.data }, { on := 15, ground := Ground.guard }], guard := some (15, false) }) (v := ?vb69) rfl (by kernel_rfl) (by kernel_rfl) (by kernel_rfl) (fun _ _ _ h => h) (Or.inl ⟨by rfl, ?yb69⟩) g6 ?_
      case yb69 =>
        intro w hSw
        have k := run_str (HX.out.below hSw) capx
        rw [HLH.out] at k
        go_simp; all_goals (with_reducible rfl)
      simp only [Act.put, List.setIfInBounds_toArray, List.set_cons_zero, List.set_cons_succ]
      refine wpAnyH_take (i := 18) (oi := { dst := some 85, op := Op.move (Operand.tmp 0), type := 3, pos := "law.go:31", after := #[{ on := 15, ground := Ground.guard }], guard := some (15, false) }) (v := ?vb70) rfl (by kernel_rfl) (by kernel_rfl) (by kernel_rfl) (fun _ _ _ h => h) (Or.inl ⟨by rfl, ?yb70⟩) g6 ?_
      case yb70 =>
        intro w hSw
        go_simp; all_goals (with_reducible rfl)
      simp only [Act.put, List.setIfInBounds_toArray, List.set_cons_zero, List.set_cons_succ]
      refine wpAnyH_ready (rs := [19]) (by kernel_rfl) (by simp) ?_
      refine (AllReadyH.cons (o := { dst := some 86, op := Op.call { callee := Callee.value (Operand.func 14), args := #[Operand.tmp 85], argTypes := #[3] }, type := 22, pos := "law.go:31", after := #[{ on := 18, ground := Ground.data }, { on := 15, ground := Ground.chain }, { on := 15, ground := Ground.guard }], guard := some (15, false) }) rfl (fun K hK => ?_) AllReadyH.nil)
      go_simp
      refine (rhead_any b w6).mono ?_
      rintro e w7 hd
      obtain ⟨A7, c7, rfl, _, _, hB7, hb7⟩ := hd.bytes
      have g7 := g6.trans (hb7.mono g6.size)
      have k7 := run_str hB7 c7
      rw [HLH.out] at k7
      rw [HLH.out]
      clear hB7 hb7 hd
      go_wp2_with fail
      refine hK.out _ _ g7 (fun _ => ?_)
      clear hK K
      refine wpAnyH_ready (rs := [20]) (by kernel_rfl) (by simp) ?_
      refine (AllReadyH.cons (o := { dst := some 87, op := Op.convert 22 9 (Operand.tmp 86), type := 9, pos := "law.go:31", after := #[{ on := 19, ground := Ground.data }, { on := 15, ground := Ground.guard }], guard := some (15, false) }) rfl (fun K hK => ?_) AllReadyH.nil)
      go_simp
      refine hK.out _ _ g7 (fun _ => ?_)
      clear hK K
      refine wpAnyH_take (i := 21) (oi := { dst := some 88, op := Op.binOp BinOp.neq 9 (Operand.tmp 84) (Operand.tmp 87) 9, type := 4, pos := "law.go:31", after := #[{ on := 17, ground := Ground.data }, { on := 20, ground := Ground.data }, { on := 15, ground := Ground.guard }], guard := some (15, false) }) (v := ?vb71) rfl (by kernel_rfl) (by kernel_rfl) (by kernel_rfl) (fun _ _ _ h => h) (Or.inl ⟨by rfl, ?yb71⟩) g7 ?_
      case yb71 =>
        intro w hSw
        go_simp; all_goals (with_reducible rfl)
      simp only [Act.put, List.setIfInBounds_toArray, List.set_cons_zero, List.set_cons_succ]
      refine wpAnyH_take (i := 22) (oi := { dst := some 89, op := Op.pick (Operand.tmp 82) (Operand.const (Value.bool true)) (Operand.tmp 88), type := 4, pos := "law.go:31", after := #[{ on := 15, ground := Ground.data }, { on := 21, ground := Ground.data }], guard := none }) (v := ?vb72) rfl (by kernel_rfl) (by kernel_rfl) (by kernel_rfl) (fun _ _ _ h => h) (Or.inl ⟨by rfl, ?yb72⟩) g7 ?_
      case yb72 =>
        intro w hSw
        go_simp; all_goals (with_reducible rfl)
      simp only [Act.put, List.setIfInBounds_toArray, List.set_cons_zero, List.set_cons_succ]
      refine wpAnyH_take (i := 23) (oi := { dst := some 90, op := Op.move (Operand.tmp 89), type := 4, pos := "law.go:31", after := #[{ on := 22, ground := Ground.data }, { on := 19, ground := Ground.chain }], guard := none }) (v := ?vb73) rfl (by kernel_rfl) (by kernel_rfl) (by kernel_rfl) (fun _ _ _ h => h) (Or.inl ⟨by rfl, ?yb73⟩) g7 ?_
      case yb73 =>
        intro w hSw
        go_simp; all_goals (with_reducible rfl)
      simp only [Act.put, List.setIfInBounds_toArray, List.set_cons_zero, List.set_cons_succ]
      refine wpAnyH_take (i := 24) (oi := { dst := some 91, op := Op.move (Operand.tmp 9), type := 25, pos := "law.go:31", after := #[{ on := 23, ground := Ground.guard }], guard := some (23, false) }) (v := ?vb74) rfl (by kernel_rfl) (by kernel_rfl) (by kernel_rfl) (fun _ _ _ h => h) (Or.inl ⟨by rfl, ?yb74⟩) g7 ?_
      case yb74 =>
        intro w hSw
        go_simp; all_goals (with_reducible rfl)
      simp only [Act.put, List.setIfInBounds_toArray, List.set_cons_zero, List.set_cons_succ]
      refine wpAnyH_take (i := 25) (oi := { dst := some 92, op := Op.binOp BinOp.neq 25 (Operand.tmp 91) (Operand.const (Value.int IntKind.i64 0)) 25, type := 4, pos := "law.go:31", after := #[{ on := 24, ground := Ground.data }, { on := 23, ground := Ground.guard }], guard := some (23, false) }) (v := ?vb75) rfl (by kernel_rfl) (by kernel_rfl) (by kernel_rfl) (fun _ _ _ h => h) (Or.inl ⟨by rfl, ?yb75⟩) g7 ?_
      case yb75 =>
        intro w hSw
        go_simp; all_goals (with_reducible rfl)
      simp only [Act.put, List.setIfInBounds_toArray, List.set_cons_zero, List.set_cons_succ]
      refine wpAnyH_take (i := 26) (oi := { dst := some 93, op := Op.pick (Operand.tmp 90) (Operand.const (Value.bool true)) (Operand.tmp 92), type := 4, pos := "law.go:31", after := #[{ on := 23, ground := Ground.data }, { on := 25, ground := Ground.data }], guard := none }) (v := ?vb76) rfl (by kernel_rfl) (by kernel_rfl) (by kernel_rfl) (fun _ _ _ h => h) (Or.inl ⟨by rfl, ?yb76⟩) g7 ?_
      case yb76 =>
        intro w hSw
        go_simp; all_goals (with_reducible rfl)
      simp only [Act.put, List.setIfInBounds_toArray, List.set_cons_zero, List.set_cons_succ]
      refine wpAnyH_done (by kernel_rfl) ?_ _
      have gy := g3.trans (g7.mono g3.size)
      have HY := Lib.hid (HY3.out.below g7)
      clear g4 g5 g6 g7 hdr k5 k5b k6 k7 hS
      obtain ⟨hmb, hmb2⟩ := HMB.out
      go_wp2_with fail
      clear hmb hmb2
      have hdr7 : Below w7.heap.size w7 w7.drew := below_drew w7
      refine wp_region_held_drew (S := fun w' => Below w7.heap.size w7 w') (by kernel_rfl) hdr7 (fun hS => ?_)
      refine wpAnyH_take (i := 0) (oi := { dst := some 115, op := Op.move (Operand.tmp 10), type := 22, pos := "law.go:37", after := #[], guard := none }) (v := ?vc1) rfl (by kernel_rfl) (by kernel_rfl) (by kernel_rfl) (fun _ _ _ h => h) (Or.inl ⟨by rfl, ?yc1⟩) hS ?_
      case yc1 =>
        intro w hSw
        go_simp; all_goals (with_reducible rfl)
      simp only [Act.put, List.setIfInBounds_toArray, List.set_cons_zero, List.set_cons_succ]
      refine wpAnyH_take (i := 1) (oi := { dst := some 116, op := Op.convert 22 9 (Operand.tmp 115), type := 9, pos := "law.go:37", after := #[{ on := 0, ground := Ground.data }], guard := none }) (v := ?vc2) rfl (by kernel_rfl) (by kernel_rfl) (by kernel_rfl) (fun _ _ _ h => h) (Or.inl ⟨by rfl, ?yc2⟩) hS ?_
      case yc2 =>
        intro w hSw
        have k := run_str (HY.out.below hSw) capy
        rw [HLF.out] at k
        go_simp; all_goals (with_reducible rfl)
      simp only [Act.put, List.setIfInBounds_toArray, List.set_cons_zero, List.set_cons_succ]
      refine wpAnyH_take (i := 2) (oi := { dst := some 117, op := Op.move (Operand.tmp 0), type := 3, pos := "law.go:37", after := #[], guard := none }) (v := ?vc3) rfl (by kernel_rfl) (by kernel_rfl) (by kernel_rfl) (fun _ _ _ h => h) (Or.inl ⟨by rfl, ?yc3⟩) hS ?_
      case yc3 =>
        intro w hSw
        go_simp; all_goals (with_reducible rfl)
      simp only [Act.put, List.setIfInBounds_toArray, List.set_cons_zero, List.set_cons_succ]
      refine wpAnyH_take (i := 3) (oi := { dst := some 118, op := Op.move (Operand.tmp 2), type := 3, pos := "law.go:37", after := #[], guard := none }) (v := ?vc4) rfl (by kernel_rfl) (by kernel_rfl) (by kernel_rfl) (fun _ _ _ h => h) (Or.inl ⟨by rfl, ?yc4⟩) hS ?_
      case yc4 =>
        intro w hSw
        go_simp; all_goals (with_reducible rfl)
      simp only [Act.put, List.setIfInBounds_toArray, List.set_cons_zero, List.set_cons_succ]
      refine wpAnyH_ready (rs := [4]) (by kernel_rfl) (by simp) ?_
      refine (AllReadyH.cons (o := { dst := some 119, op := Op.call { callee := Callee.value (Operand.func 15), args := #[Operand.tmp 117, Operand.tmp 118], argTypes := #[3, 3] }, type := 22, pos := "law.go:37", after := #[{ on := 2, ground := Ground.data }, { on := 3, ground := Ground.data }], guard := none }) rfl (fun K hK => ?_) AllReadyH.nil)
      go_simp
      refine (rfoot_any b n s HSN.out HNN.out w7.drew).mono ?_
      rintro e w8 hd
      obtain ⟨A8, c8, rfl, _, _, hB8, hb8⟩ := hd.bytes
      have g8 := hdr7.trans (hb8.mono hdr7.size)
      have k8 := run_str hB8 c8
      rw [HLF.out] at k8
      rw [HLF.out]
      clear hB8 hb8 hd
      go_wp2_with fail
      refine hK.out _ _ g8 (fun _ => ?_)
      clear hK K
      refine wpAnyH_ready (rs := [5]) (by kernel_rfl) (by simp) ?_
      refine (AllReadyH.cons (o := { dst := some 120, op := Op.convert 22 9 (Operand.tmp 119), type := 9, pos := "law.go:37", after := #[{ on := 4, ground := Ground.data }], guard := none }) rfl (fun K hK => ?_) AllReadyH.nil)
      go_simp
      refine hK.out _ _ g8 (fun _ => ?_)
      clear hK K
      refine wpAnyH_take (i := 6) (oi := { dst := some 121, op := Op.binOp BinOp.eql 9 (Operand.tmp 116) (Operand.tmp 120) 9, type := 4, pos := "law.go:37", after := #[{ on := 1, ground := Ground.data }, { on := 5, ground := Ground.data }], guard := none }) (v := ?vc5) rfl (by kernel_rfl) (by kernel_rfl) (by kernel_rfl) (fun _ _ _ h => h) (Or.inl ⟨by rfl, ?yc5⟩) g8 ?_
      case yc5 =>
        intro w hSw
        go_simp; all_goals (with_reducible rfl)
      simp only [Act.put, List.setIfInBounds_toArray, List.set_cons_zero, List.set_cons_succ]
      refine wpAnyH_take (i := 7) (oi := { dst := some 122, op := Op.move (Operand.tmp 121), type := 4, pos := "law.go:37", after := #[{ on := 6, ground := Ground.data }, { on := 4, ground := Ground.chain }], guard := none }) (v := ?vc6) rfl (by kernel_rfl) (by kernel_rfl) (by kernel_rfl) (fun _ _ _ h => h) (Or.inl ⟨by rfl, ?yc6⟩) g8 ?_
      case yc6 =>
        intro w hSw
        go_simp; all_goals (with_reducible rfl)
      simp only [Act.put, List.setIfInBounds_toArray, List.set_cons_zero, List.set_cons_succ]
      refine wpAnyH_take (i := 8) (oi := { dst := some 123, op := Op.move (Operand.tmp 11), type := 25, pos := "law.go:37", after := #[{ on := 7, ground := Ground.guard }], guard := some (7, true) }) (v := ?vc7) rfl (by kernel_rfl) (by kernel_rfl) (by kernel_rfl) (fun _ _ _ h => h) (Or.inl ⟨by rfl, ?yc7⟩) g8 ?_
      case yc7 =>
        intro w hSw
        go_simp; all_goals (with_reducible rfl)
      simp only [Act.put, List.setIfInBounds_toArray, List.set_cons_zero, List.set_cons_succ]
      refine wpAnyH_take (i := 9) (oi := { dst := some 124, op := Op.binOp BinOp.eql 25 (Operand.tmp 123) (Operand.const (Value.int IntKind.i64 0)) 25, type := 4, pos := "law.go:37", after := #[{ on := 8, ground := Ground.data }, { on := 7, ground := Ground.guard }], guard := some (7, true) }) (v := ?vc8) rfl (by kernel_rfl) (by kernel_rfl) (by kernel_rfl) (fun _ _ _ h => h) (Or.inl ⟨by rfl, ?yc8⟩) g8 ?_
      case yc8 =>
        intro w hSw
        go_simp; all_goals (with_reducible rfl)
      simp only [Act.put, List.setIfInBounds_toArray, List.set_cons_zero, List.set_cons_succ]
      refine wpAnyH_take (i := 10) (oi := { dst := some 125, op := Op.pick (Operand.tmp 122) (Operand.tmp 124) (Operand.const (Value.bool false)), type := 4, pos := "law.go:37", after := #[{ on := 7, ground := Ground.data }, { on := 9, ground := Ground.data }], guard := none }) (v := ?vc9) rfl (by kernel_rfl) (by kernel_rfl) (by kernel_rfl) (fun _ _ _ h => h) (Or.inl ⟨by rfl, ?yc9⟩) g8 ?_
      case yc9 =>
        intro w hSw
        go_simp; all_goals (with_reducible rfl)
      simp only [Act.put, List.setIfInBounds_toArray, List.set_cons_zero, List.set_cons_succ]
      refine wpAnyH_take (i := 11) (oi := { dst := some 126, op := Op.move (Operand.tmp 125), type := 4, pos := "law.go:37", after := #[{ on := 10, ground := Ground.data }, { on := 7, ground := Ground.chain }], guard := none }) (v := ?vc10) rfl (by kernel_rfl) (by kernel_rfl) (by kernel_rfl) (fun _ _ _ h => h) (Or.inl ⟨by rfl, ?yc10⟩) g8 ?_
      case yc10 =>
        intro w hSw
        go_simp; all_goals (with_reducible rfl)
      simp only [Act.put, List.setIfInBounds_toArray, List.set_cons_zero, List.set_cons_succ]
      refine wpAnyH_ready (rs := [12]) (by kernel_rfl) (by simp) ?_
      refine (AllReadyH.cons (o := { dst := some 127, op := Op.call { callee := Callee.value (Operand.func 6), args := #[], argTypes := #[] }, type := 4, pos := "law.go:37", after := #[{ on := 11, ground := Ground.chain }, { on := 11, ground := Ground.guard }], guard := some (11, true) }) rfl (fun K hK => ?_) AllReadyH.nil)
      go_simp
      refine (fl_knows w8 (HT.out.below (gy.trans (g8.mono gy.size)))).mono ?_
      rintro e w9 ⟨rfl, hb9⟩
      have g9 := g8.trans (hb9.mono g8.size)
      go_wp2_with fail
      refine hK.out _ _ g9 (fun _ => ?_)
      clear hK K
      refine wpAnyH_take (i := 13) (oi := { dst := some 128, op := Op.pick (Operand.tmp 126) (Operand.tmp 127) (Operand.const (Value.bool false)), type := 4, pos := "law.go:37", after := #[{ on := 11, ground := Ground.data }, { on := 12, ground := Ground.data }], guard := none }) (v := ?vc11) rfl (by kernel_rfl) (by kernel_rfl) (by kernel_rfl) (fun _ _ _ h => h) (Or.inl ⟨by rfl, ?yc11⟩) g9 ?_
      case yc11 =>
        intro w hSw
        go_simp; all_goals (with_reducible rfl)
      simp only [Act.put, List.setIfInBounds_toArray, List.set_cons_zero, List.set_cons_succ]
      refine wpAnyH_take (i := 14) (oi := { dst := some 6, op := Op.assign (Operand.tmp 128), type := 4, pos := "law.go:37", after := #[{ on := 13, ground := Ground.data }, { on := 12, ground := Ground.chain }, { on := 0, ground := Ground.phase }, { on := 1, ground := Ground.phase }, { on := 2, ground := Ground.phase }, { on := 3, ground := Ground.phase }, { on := 4, ground := Ground.phase }, { on := 5, ground := Ground.phase }, { on := 6, ground := Ground.phase }, { on := 7, ground := Ground.phase }, { on := 8, ground := Ground.phase }, { on := 9, ground := Ground.phase }, { on := 10, ground := Ground.phase }, { on := 11, ground := Ground.phase }, { on := 12, ground := Ground.phase }, { on := 13, ground := Ground.phase }], guard := none }) (v := ?vc12) rfl (by kernel_rfl) (by kernel_rfl) (by kernel_rfl) (fun _ _ _ h => h) (Or.inl ⟨by rfl, ?yc12⟩) g9 ?_
      case yc12 =>
        intro w hSw
        go_simp; all_goals (with_reducible rfl)
      simp only [Act.put, List.setIfInBounds_toArray, List.set_cons_zero, List.set_cons_succ]
      refine wpAnyH_done (by kernel_rfl) ?_ _
      go_wp2_with fail
      go_ret
      exact ⟨rfl, gy.trans (g9.mono gy.size)⟩
    · skip
      go_simp
      refine (HRC.out w5 (HBB.out.below (g3.trans (g5.mono g3.size)))).mono ?_
      rintro e w6 ⟨A6, c6, rfl, _, _, hB6, hb6⟩
      have g6 := g5.trans (hb6.mono g5.size)
      have k6 := run_str hB6 c6
      have k5b := run_str (HB5.out.below hb6) c5
      rw [HLS.out] at k6 k5b
      rw [HLS.out]
      clear hB6 hb6
      go_wp2_with fail
      refine hK.out _ _ g6 (fun _ => ?_)
      clear hK K
      refine wpAnyH_ready (rs := [8, 12]) (by kernel_rfl) (by simp) ?_
      refine (AllReadyH.cons (o := { dst := some 75, op := Op.convert 22 9 (Operand.tmp 74), type := 9, pos := "law.go:31", after := #[{ on := 7, ground := Ground.data }, { on := 4, ground := Ground.guard }], guard := some (4, false) }) rfl (fun K hK => ?_) (AllReadyH.cons (o := { dst := some 79, op := Op.convert 22 9 (Operand.tmp 78), type := 9, pos := "law.go:31", after := #[{ on := 11, ground := Ground.data }, { on := 4, ground := Ground.guard }], guard := some (4, false) }) rfl (fun K hK => ?_) AllReadyH.nil))
      · skip
        go_simp
        refine hK.out _ _ g6 (fun _ => ?_)
        clear hK K
        refine wpAnyH_ready (rs := [12]) (by kernel_rfl) (by simp) ?_
        refine (AllReadyH.cons (o := { dst := some 79, op := Op.convert 22 9 (Operand.tmp 78), type := 9, pos := "law.go:31", after := #[{ on := 11, ground := Ground.data }, { on := 4, ground := Ground.guard }], guard := some (4, false) }) rfl (fun K hK => ?_) AllReadyH.nil)
        go_simp
        refine hK.out _ _ g6 (fun _ => ?_)
        clear hK K
        refine wpAnyH_take (i := 13) (oi := { dst := some 80, op := Op.binOp BinOp.neq 9 (Operand.tmp 75) (Operand.tmp 79) 9, type := 4, pos := "law.go:31", after := #[{ on := 8, ground := Ground.data }, { on := 12, ground := Ground.data }, { on := 4, ground := Ground.guard }], guard := some (4, false) }) (v := ?vb77) rfl (by kernel_rfl) (by kernel_rfl) (by kernel_rfl) (fun _ _ _ h => h) (Or.inl ⟨by rfl, ?yb77⟩) g6 ?_
        case yb77 =>
          intro w hSw
          go_simp; all_goals (with_reducible rfl)
        simp only [Act.put, List.setIfInBounds_toArray, List.set_cons_zero, List.set_cons_succ]
        refine wpAnyH_take (i := 14) (oi := { dst := some 81, op := Op.pick (Operand.tmp 71) (Operand.const (Value.bool true)) (Operand.tmp 80), type := 4, pos := "law.go:31", after := #[{ on := 4, ground := Ground.data }, { on := 13, ground := Ground.data }], guard := none }) (v := ?vb78) rfl (by kernel_rfl) (by kernel_rfl) (by kernel_rfl) (fun _ _ _ h => h) (Or.inl ⟨by rfl, ?yb78⟩) g6 ?_
        case yb78 =>
          intro w hSw
          go_simp; all_goals (with_reducible rfl)
        simp only [Act.put, List.setIfInBounds_toArray, List.set_cons_zero, List.set_cons_succ]
        refine wpAnyH_take (i := 15) (oi := { dst := some 82, op := Op.move (Operand.tmp 81), type := 4, pos := "law.go:31", after := #[{ on := 14, ground := Ground.data }, { on := 11, ground := Ground.chain }], guard := none }) (v := ?vb79) rfl (by kernel_rfl) (by kernel_rfl) (by kernel_rfl) (fun _ _ _ h => h) (Or.inl ⟨by rfl, ?yb79⟩) g6 ?_
        case yb79 =>
          intro w hSw
          go_simp; all_goals (with_reducible rfl)
        simp only [Act.put, List.setIfInBounds_toArray, List.set_cons_zero, List.set_cons_succ]
        refine wpAnyH_take (i := 16) (oi := { dst := some 83, op := Op.move (Operand.tmp 8), type := 22, pos := "law.go:31", after := #[{ on := 15, ground := Ground.guard }], guard := some (15, false) }) (v := ?vb80) rfl (by kernel_rfl) (by kernel_rfl) (by kernel_rfl) (fun _ _ _ h => h) (Or.inl ⟨by rfl, ?yb80⟩) g6 ?_
        case yb80 =>
          intro w hSw
          go_simp; all_goals (with_reducible rfl)
        simp only [Act.put, List.setIfInBounds_toArray, List.set_cons_zero, List.set_cons_succ]
        refine wpAnyH_take (i := 17) (oi := { dst := some 84, op := Op.convert 22 9 (Operand.tmp 83), type := 9, pos := "law.go:31", after := #[{ on := 16, ground := Ground.data }, { on := 15, ground := Ground.guard }], guard := some (15, false) }) (v := ?vb81) rfl (by kernel_rfl) (by kernel_rfl) (by kernel_rfl) (fun _ _ _ h => h) (Or.inl ⟨by rfl, ?yb81⟩) g6 ?_
        case yb81 =>
          intro w hSw
          have k := run_str (HX.out.below hSw) capx
          rw [HLH.out] at k
          go_simp; all_goals (with_reducible rfl)
        simp only [Act.put, List.setIfInBounds_toArray, List.set_cons_zero, List.set_cons_succ]
        refine wpAnyH_take (i := 18) (oi := { dst := some 85, op := Op.move (Operand.tmp 0), type := 3, pos := "law.go:31", after := #[{ on := 15, ground := Ground.guard }], guard := some (15, false) }) (v := ?vb82) rfl (by kernel_rfl) (by kernel_rfl) (by kernel_rfl) (fun _ _ _ h => h) (Or.inl ⟨by rfl, ?yb82⟩) g6 ?_
        case yb82 =>
          intro w hSw
          go_simp; all_goals (with_reducible rfl)
        simp only [Act.put, List.setIfInBounds_toArray, List.set_cons_zero, List.set_cons_succ]
        refine wpAnyH_ready (rs := [19]) (by kernel_rfl) (by simp) ?_
        refine (AllReadyH.cons (o := { dst := some 86, op := Op.call { callee := Callee.value (Operand.func 14), args := #[Operand.tmp 85], argTypes := #[3] }, type := 22, pos := "law.go:31", after := #[{ on := 18, ground := Ground.data }, { on := 15, ground := Ground.chain }, { on := 15, ground := Ground.guard }], guard := some (15, false) }) rfl (fun K hK => ?_) AllReadyH.nil)
        go_simp
        refine (rhead_any b w6).mono ?_
        rintro e w7 hd
        obtain ⟨A7, c7, rfl, _, _, hB7, hb7⟩ := hd.bytes
        have g7 := g6.trans (hb7.mono g6.size)
        have k7 := run_str hB7 c7
        rw [HLH.out] at k7
        rw [HLH.out]
        clear hB7 hb7 hd
        go_wp2_with fail
        refine hK.out _ _ g7 (fun _ => ?_)
        clear hK K
        refine wpAnyH_ready (rs := [20]) (by kernel_rfl) (by simp) ?_
        refine (AllReadyH.cons (o := { dst := some 87, op := Op.convert 22 9 (Operand.tmp 86), type := 9, pos := "law.go:31", after := #[{ on := 19, ground := Ground.data }, { on := 15, ground := Ground.guard }], guard := some (15, false) }) rfl (fun K hK => ?_) AllReadyH.nil)
        go_simp
        refine hK.out _ _ g7 (fun _ => ?_)
        clear hK K
        refine wpAnyH_take (i := 21) (oi := { dst := some 88, op := Op.binOp BinOp.neq 9 (Operand.tmp 84) (Operand.tmp 87) 9, type := 4, pos := "law.go:31", after := #[{ on := 17, ground := Ground.data }, { on := 20, ground := Ground.data }, { on := 15, ground := Ground.guard }], guard := some (15, false) }) (v := ?vb83) rfl (by kernel_rfl) (by kernel_rfl) (by kernel_rfl) (fun _ _ _ h => h) (Or.inl ⟨by rfl, ?yb83⟩) g7 ?_
        case yb83 =>
          intro w hSw
          go_simp; all_goals (with_reducible rfl)
        simp only [Act.put, List.setIfInBounds_toArray, List.set_cons_zero, List.set_cons_succ]
        refine wpAnyH_take (i := 22) (oi := { dst := some 89, op := Op.pick (Operand.tmp 82) (Operand.const (Value.bool true)) (Operand.tmp 88), type := 4, pos := "law.go:31", after := #[{ on := 15, ground := Ground.data }, { on := 21, ground := Ground.data }], guard := none }) (v := ?vb84) rfl (by kernel_rfl) (by kernel_rfl) (by kernel_rfl) (fun _ _ _ h => h) (Or.inl ⟨by rfl, ?yb84⟩) g7 ?_
        case yb84 =>
          intro w hSw
          go_simp; all_goals (with_reducible rfl)
        simp only [Act.put, List.setIfInBounds_toArray, List.set_cons_zero, List.set_cons_succ]
        refine wpAnyH_take (i := 23) (oi := { dst := some 90, op := Op.move (Operand.tmp 89), type := 4, pos := "law.go:31", after := #[{ on := 22, ground := Ground.data }, { on := 19, ground := Ground.chain }], guard := none }) (v := ?vb85) rfl (by kernel_rfl) (by kernel_rfl) (by kernel_rfl) (fun _ _ _ h => h) (Or.inl ⟨by rfl, ?yb85⟩) g7 ?_
        case yb85 =>
          intro w hSw
          go_simp; all_goals (with_reducible rfl)
        simp only [Act.put, List.setIfInBounds_toArray, List.set_cons_zero, List.set_cons_succ]
        refine wpAnyH_take (i := 24) (oi := { dst := some 91, op := Op.move (Operand.tmp 9), type := 25, pos := "law.go:31", after := #[{ on := 23, ground := Ground.guard }], guard := some (23, false) }) (v := ?vb86) rfl (by kernel_rfl) (by kernel_rfl) (by kernel_rfl) (fun _ _ _ h => h) (Or.inl ⟨by rfl, ?yb86⟩) g7 ?_
        case yb86 =>
          intro w hSw
          go_simp; all_goals (with_reducible rfl)
        simp only [Act.put, List.setIfInBounds_toArray, List.set_cons_zero, List.set_cons_succ]
        refine wpAnyH_take (i := 25) (oi := { dst := some 92, op := Op.binOp BinOp.neq 25 (Operand.tmp 91) (Operand.const (Value.int IntKind.i64 0)) 25, type := 4, pos := "law.go:31", after := #[{ on := 24, ground := Ground.data }, { on := 23, ground := Ground.guard }], guard := some (23, false) }) (v := ?vb87) rfl (by kernel_rfl) (by kernel_rfl) (by kernel_rfl) (fun _ _ _ h => h) (Or.inl ⟨by rfl, ?yb87⟩) g7 ?_
        case yb87 =>
          intro w hSw
          go_simp; all_goals (with_reducible rfl)
        simp only [Act.put, List.setIfInBounds_toArray, List.set_cons_zero, List.set_cons_succ]
        refine wpAnyH_take (i := 26) (oi := { dst := some 93, op := Op.pick (Operand.tmp 90) (Operand.const (Value.bool true)) (Operand.tmp 92), type := 4, pos := "law.go:31", after := #[{ on := 23, ground := Ground.data }, { on := 25, ground := Ground.data }], guard := none }) (v := ?vb88) rfl (by kernel_rfl) (by kernel_rfl) (by kernel_rfl) (fun _ _ _ h => h) (Or.inl ⟨by rfl, ?yb88⟩) g7 ?_
        case yb88 =>
          intro w hSw
          go_simp; all_goals (with_reducible rfl)
        simp only [Act.put, List.setIfInBounds_toArray, List.set_cons_zero, List.set_cons_succ]
        refine wpAnyH_done (by kernel_rfl) ?_ _
        have gy := g3.trans (g7.mono g3.size)
        have HY := Lib.hid (HY3.out.below g7)
        clear g4 g5 g6 g7 hdr k5 k5b k6 k7 hS
        obtain ⟨hmb, hmb2⟩ := HMB.out
        go_wp2_with fail
        clear hmb hmb2
        have hdr7 : Below w7.heap.size w7 w7.drew := below_drew w7
        refine wp_region_held_drew (S := fun w' => Below w7.heap.size w7 w') (by kernel_rfl) hdr7 (fun hS => ?_)
        refine wpAnyH_take (i := 0) (oi := { dst := some 115, op := Op.move (Operand.tmp 10), type := 22, pos := "law.go:37", after := #[], guard := none }) (v := ?vc1) rfl (by kernel_rfl) (by kernel_rfl) (by kernel_rfl) (fun _ _ _ h => h) (Or.inl ⟨by rfl, ?yc1⟩) hS ?_
        case yc1 =>
          intro w hSw
          go_simp; all_goals (with_reducible rfl)
        simp only [Act.put, List.setIfInBounds_toArray, List.set_cons_zero, List.set_cons_succ]
        refine wpAnyH_take (i := 1) (oi := { dst := some 116, op := Op.convert 22 9 (Operand.tmp 115), type := 9, pos := "law.go:37", after := #[{ on := 0, ground := Ground.data }], guard := none }) (v := ?vc2) rfl (by kernel_rfl) (by kernel_rfl) (by kernel_rfl) (fun _ _ _ h => h) (Or.inl ⟨by rfl, ?yc2⟩) hS ?_
        case yc2 =>
          intro w hSw
          have k := run_str (HY.out.below hSw) capy
          rw [HLF.out] at k
          go_simp; all_goals (with_reducible rfl)
        simp only [Act.put, List.setIfInBounds_toArray, List.set_cons_zero, List.set_cons_succ]
        refine wpAnyH_take (i := 2) (oi := { dst := some 117, op := Op.move (Operand.tmp 0), type := 3, pos := "law.go:37", after := #[], guard := none }) (v := ?vc3) rfl (by kernel_rfl) (by kernel_rfl) (by kernel_rfl) (fun _ _ _ h => h) (Or.inl ⟨by rfl, ?yc3⟩) hS ?_
        case yc3 =>
          intro w hSw
          go_simp; all_goals (with_reducible rfl)
        simp only [Act.put, List.setIfInBounds_toArray, List.set_cons_zero, List.set_cons_succ]
        refine wpAnyH_take (i := 3) (oi := { dst := some 118, op := Op.move (Operand.tmp 2), type := 3, pos := "law.go:37", after := #[], guard := none }) (v := ?vc4) rfl (by kernel_rfl) (by kernel_rfl) (by kernel_rfl) (fun _ _ _ h => h) (Or.inl ⟨by rfl, ?yc4⟩) hS ?_
        case yc4 =>
          intro w hSw
          go_simp; all_goals (with_reducible rfl)
        simp only [Act.put, List.setIfInBounds_toArray, List.set_cons_zero, List.set_cons_succ]
        refine wpAnyH_ready (rs := [4]) (by kernel_rfl) (by simp) ?_
        refine (AllReadyH.cons (o := { dst := some 119, op := Op.call { callee := Callee.value (Operand.func 15), args := #[Operand.tmp 117, Operand.tmp 118], argTypes := #[3, 3] }, type := 22, pos := "law.go:37", after := #[{ on := 2, ground := Ground.data }, { on := 3, ground := Ground.data }], guard := none }) rfl (fun K hK => ?_) AllReadyH.nil)
        go_simp
        refine (rfoot_any b n s HSN.out HNN.out w7.drew).mono ?_
        rintro e w8 hd
        obtain ⟨A8, c8, rfl, _, _, hB8, hb8⟩ := hd.bytes
        have g8 := hdr7.trans (hb8.mono hdr7.size)
        have k8 := run_str hB8 c8
        rw [HLF.out] at k8
        rw [HLF.out]
        clear hB8 hb8 hd
        go_wp2_with fail
        refine hK.out _ _ g8 (fun _ => ?_)
        clear hK K
        refine wpAnyH_ready (rs := [5]) (by kernel_rfl) (by simp) ?_
        refine (AllReadyH.cons (o := { dst := some 120, op := Op.convert 22 9 (Operand.tmp 119), type := 9, pos := "law.go:37", after := #[{ on := 4, ground := Ground.data }], guard := none }) rfl (fun K hK => ?_) AllReadyH.nil)
        go_simp
        refine hK.out _ _ g8 (fun _ => ?_)
        clear hK K
        refine wpAnyH_take (i := 6) (oi := { dst := some 121, op := Op.binOp BinOp.eql 9 (Operand.tmp 116) (Operand.tmp 120) 9, type := 4, pos := "law.go:37", after := #[{ on := 1, ground := Ground.data }, { on := 5, ground := Ground.data }], guard := none }) (v := ?vc5) rfl (by kernel_rfl) (by kernel_rfl) (by kernel_rfl) (fun _ _ _ h => h) (Or.inl ⟨by rfl, ?yc5⟩) g8 ?_
        case yc5 =>
          intro w hSw
          go_simp; all_goals (with_reducible rfl)
        simp only [Act.put, List.setIfInBounds_toArray, List.set_cons_zero, List.set_cons_succ]
        refine wpAnyH_take (i := 7) (oi := { dst := some 122, op := Op.move (Operand.tmp 121), type := 4, pos := "law.go:37", after := #[{ on := 6, ground := Ground.data }, { on := 4, ground := Ground.chain }], guard := none }) (v := ?vc6) rfl (by kernel_rfl) (by kernel_rfl) (by kernel_rfl) (fun _ _ _ h => h) (Or.inl ⟨by rfl, ?yc6⟩) g8 ?_
        case yc6 =>
          intro w hSw
          go_simp; all_goals (with_reducible rfl)
        simp only [Act.put, List.setIfInBounds_toArray, List.set_cons_zero, List.set_cons_succ]
        refine wpAnyH_take (i := 8) (oi := { dst := some 123, op := Op.move (Operand.tmp 11), type := 25, pos := "law.go:37", after := #[{ on := 7, ground := Ground.guard }], guard := some (7, true) }) (v := ?vc7) rfl (by kernel_rfl) (by kernel_rfl) (by kernel_rfl) (fun _ _ _ h => h) (Or.inl ⟨by rfl, ?yc7⟩) g8 ?_
        case yc7 =>
          intro w hSw
          go_simp; all_goals (with_reducible rfl)
        simp only [Act.put, List.setIfInBounds_toArray, List.set_cons_zero, List.set_cons_succ]
        refine wpAnyH_take (i := 9) (oi := { dst := some 124, op := Op.binOp BinOp.eql 25 (Operand.tmp 123) (Operand.const (Value.int IntKind.i64 0)) 25, type := 4, pos := "law.go:37", after := #[{ on := 8, ground := Ground.data }, { on := 7, ground := Ground.guard }], guard := some (7, true) }) (v := ?vc8) rfl (by kernel_rfl) (by kernel_rfl) (by kernel_rfl) (fun _ _ _ h => h) (Or.inl ⟨by rfl, ?yc8⟩) g8 ?_
        case yc8 =>
          intro w hSw
          go_simp; all_goals (with_reducible rfl)
        simp only [Act.put, List.setIfInBounds_toArray, List.set_cons_zero, List.set_cons_succ]
        refine wpAnyH_take (i := 10) (oi := { dst := some 125, op := Op.pick (Operand.tmp 122) (Operand.tmp 124) (Operand.const (Value.bool false)), type := 4, pos := "law.go:37", after := #[{ on := 7, ground := Ground.data }, { on := 9, ground := Ground.data }], guard := none }) (v := ?vc9) rfl (by kernel_rfl) (by kernel_rfl) (by kernel_rfl) (fun _ _ _ h => h) (Or.inl ⟨by rfl, ?yc9⟩) g8 ?_
        case yc9 =>
          intro w hSw
          go_simp; all_goals (with_reducible rfl)
        simp only [Act.put, List.setIfInBounds_toArray, List.set_cons_zero, List.set_cons_succ]
        refine wpAnyH_take (i := 11) (oi := { dst := some 126, op := Op.move (Operand.tmp 125), type := 4, pos := "law.go:37", after := #[{ on := 10, ground := Ground.data }, { on := 7, ground := Ground.chain }], guard := none }) (v := ?vc10) rfl (by kernel_rfl) (by kernel_rfl) (by kernel_rfl) (fun _ _ _ h => h) (Or.inl ⟨by rfl, ?yc10⟩) g8 ?_
        case yc10 =>
          intro w hSw
          go_simp; all_goals (with_reducible rfl)
        simp only [Act.put, List.setIfInBounds_toArray, List.set_cons_zero, List.set_cons_succ]
        refine wpAnyH_ready (rs := [12]) (by kernel_rfl) (by simp) ?_
        refine (AllReadyH.cons (o := { dst := some 127, op := Op.call { callee := Callee.value (Operand.func 6), args := #[], argTypes := #[] }, type := 4, pos := "law.go:37", after := #[{ on := 11, ground := Ground.chain }, { on := 11, ground := Ground.guard }], guard := some (11, true) }) rfl (fun K hK => ?_) AllReadyH.nil)
        go_simp
        refine (fl_knows w8 (HT.out.below (gy.trans (g8.mono gy.size)))).mono ?_
        rintro e w9 ⟨rfl, hb9⟩
        have g9 := g8.trans (hb9.mono g8.size)
        go_wp2_with fail
        refine hK.out _ _ g9 (fun _ => ?_)
        clear hK K
        refine wpAnyH_take (i := 13) (oi := { dst := some 128, op := Op.pick (Operand.tmp 126) (Operand.tmp 127) (Operand.const (Value.bool false)), type := 4, pos := "law.go:37", after := #[{ on := 11, ground := Ground.data }, { on := 12, ground := Ground.data }], guard := none }) (v := ?vc11) rfl (by kernel_rfl) (by kernel_rfl) (by kernel_rfl) (fun _ _ _ h => h) (Or.inl ⟨by rfl, ?yc11⟩) g9 ?_
        case yc11 =>
          intro w hSw
          go_simp; all_goals (with_reducible rfl)
        simp only [Act.put, List.setIfInBounds_toArray, List.set_cons_zero, List.set_cons_succ]
        refine wpAnyH_take (i := 14) (oi := { dst := some 6, op := Op.assign (Operand.tmp 128), type := 4, pos := "law.go:37", after := #[{ on := 13, ground := Ground.data }, { on := 12, ground := Ground.chain }, { on := 0, ground := Ground.phase }, { on := 1, ground := Ground.phase }, { on := 2, ground := Ground.phase }, { on := 3, ground := Ground.phase }, { on := 4, ground := Ground.phase }, { on := 5, ground := Ground.phase }, { on := 6, ground := Ground.phase }, { on := 7, ground := Ground.phase }, { on := 8, ground := Ground.phase }, { on := 9, ground := Ground.phase }, { on := 10, ground := Ground.phase }, { on := 11, ground := Ground.phase }, { on := 12, ground := Ground.phase }, { on := 13, ground := Ground.phase }], guard := none }) (v := ?vc12) rfl (by kernel_rfl) (by kernel_rfl) (by kernel_rfl) (fun _ _ _ h => h) (Or.inl ⟨by rfl, ?yc12⟩) g9 ?_
        case yc12 =>
          intro w hSw
          go_simp; all_goals (with_reducible rfl)
        simp only [Act.put, List.setIfInBounds_toArray, List.set_cons_zero, List.set_cons_succ]
        refine wpAnyH_done (by kernel_rfl) ?_ _
        go_wp2_with fail
        go_ret
        exact ⟨rfl, gy.trans (g9.mono gy.size)⟩
      · skip
        go_simp
        refine hK.out _ _ g6 (fun _ => ?_)
        clear hK K
        refine wpAnyH_ready (rs := [8]) (by kernel_rfl) (by simp) ?_
        refine (AllReadyH.cons (o := { dst := some 75, op := Op.convert 22 9 (Operand.tmp 74), type := 9, pos := "law.go:31", after := #[{ on := 7, ground := Ground.data }, { on := 4, ground := Ground.guard }], guard := some (4, false) }) rfl (fun K hK => ?_) AllReadyH.nil)
        go_simp
        refine hK.out _ _ g6 (fun _ => ?_)
        clear hK K
        refine wpAnyH_take (i := 13) (oi := { dst := some 80, op := Op.binOp BinOp.neq 9 (Operand.tmp 75) (Operand.tmp 79) 9, type := 4, pos := "law.go:31", after := #[{ on := 8, ground := Ground.data }, { on := 12, ground := Ground.data }, { on := 4, ground := Ground.guard }], guard := some (4, false) }) (v := ?vb89) rfl (by kernel_rfl) (by kernel_rfl) (by kernel_rfl) (fun _ _ _ h => h) (Or.inl ⟨by rfl, ?yb89⟩) g6 ?_
        case yb89 =>
          intro w hSw
          go_simp; all_goals (with_reducible rfl)
        simp only [Act.put, List.setIfInBounds_toArray, List.set_cons_zero, List.set_cons_succ]
        refine wpAnyH_take (i := 14) (oi := { dst := some 81, op := Op.pick (Operand.tmp 71) (Operand.const (Value.bool true)) (Operand.tmp 80), type := 4, pos := "law.go:31", after := #[{ on := 4, ground := Ground.data }, { on := 13, ground := Ground.data }], guard := none }) (v := ?vb90) rfl (by kernel_rfl) (by kernel_rfl) (by kernel_rfl) (fun _ _ _ h => h) (Or.inl ⟨by rfl, ?yb90⟩) g6 ?_
        case yb90 =>
          intro w hSw
          go_simp; all_goals (with_reducible rfl)
        simp only [Act.put, List.setIfInBounds_toArray, List.set_cons_zero, List.set_cons_succ]
        refine wpAnyH_take (i := 15) (oi := { dst := some 82, op := Op.move (Operand.tmp 81), type := 4, pos := "law.go:31", after := #[{ on := 14, ground := Ground.data }, { on := 11, ground := Ground.chain }], guard := none }) (v := ?vb91) rfl (by kernel_rfl) (by kernel_rfl) (by kernel_rfl) (fun _ _ _ h => h) (Or.inl ⟨by rfl, ?yb91⟩) g6 ?_
        case yb91 =>
          intro w hSw
          go_simp; all_goals (with_reducible rfl)
        simp only [Act.put, List.setIfInBounds_toArray, List.set_cons_zero, List.set_cons_succ]
        refine wpAnyH_take (i := 16) (oi := { dst := some 83, op := Op.move (Operand.tmp 8), type := 22, pos := "law.go:31", after := #[{ on := 15, ground := Ground.guard }], guard := some (15, false) }) (v := ?vb92) rfl (by kernel_rfl) (by kernel_rfl) (by kernel_rfl) (fun _ _ _ h => h) (Or.inl ⟨by rfl, ?yb92⟩) g6 ?_
        case yb92 =>
          intro w hSw
          go_simp; all_goals (with_reducible rfl)
        simp only [Act.put, List.setIfInBounds_toArray, List.set_cons_zero, List.set_cons_succ]
        refine wpAnyH_take (i := 17) (oi := { dst := some 84, op := Op.convert 22 9 (Operand.tmp 83), type := 9, pos := "law.go:31", after := #[{ on := 16, ground := Ground.data }, { on := 15, ground := Ground.guard }], guard := some (15, false) }) (v := ?vb93) rfl (by kernel_rfl) (by kernel_rfl) (by kernel_rfl) (fun _ _ _ h => h) (Or.inl ⟨by rfl, ?yb93⟩) g6 ?_
        case yb93 =>
          intro w hSw
          have k := run_str (HX.out.below hSw) capx
          rw [HLH.out] at k
          go_simp; all_goals (with_reducible rfl)
        simp only [Act.put, List.setIfInBounds_toArray, List.set_cons_zero, List.set_cons_succ]
        refine wpAnyH_take (i := 18) (oi := { dst := some 85, op := Op.move (Operand.tmp 0), type := 3, pos := "law.go:31", after := #[{ on := 15, ground := Ground.guard }], guard := some (15, false) }) (v := ?vb94) rfl (by kernel_rfl) (by kernel_rfl) (by kernel_rfl) (fun _ _ _ h => h) (Or.inl ⟨by rfl, ?yb94⟩) g6 ?_
        case yb94 =>
          intro w hSw
          go_simp; all_goals (with_reducible rfl)
        simp only [Act.put, List.setIfInBounds_toArray, List.set_cons_zero, List.set_cons_succ]
        refine wpAnyH_ready (rs := [19]) (by kernel_rfl) (by simp) ?_
        refine (AllReadyH.cons (o := { dst := some 86, op := Op.call { callee := Callee.value (Operand.func 14), args := #[Operand.tmp 85], argTypes := #[3] }, type := 22, pos := "law.go:31", after := #[{ on := 18, ground := Ground.data }, { on := 15, ground := Ground.chain }, { on := 15, ground := Ground.guard }], guard := some (15, false) }) rfl (fun K hK => ?_) AllReadyH.nil)
        go_simp
        refine (rhead_any b w6).mono ?_
        rintro e w7 hd
        obtain ⟨A7, c7, rfl, _, _, hB7, hb7⟩ := hd.bytes
        have g7 := g6.trans (hb7.mono g6.size)
        have k7 := run_str hB7 c7
        rw [HLH.out] at k7
        rw [HLH.out]
        clear hB7 hb7 hd
        go_wp2_with fail
        refine hK.out _ _ g7 (fun _ => ?_)
        clear hK K
        refine wpAnyH_ready (rs := [20]) (by kernel_rfl) (by simp) ?_
        refine (AllReadyH.cons (o := { dst := some 87, op := Op.convert 22 9 (Operand.tmp 86), type := 9, pos := "law.go:31", after := #[{ on := 19, ground := Ground.data }, { on := 15, ground := Ground.guard }], guard := some (15, false) }) rfl (fun K hK => ?_) AllReadyH.nil)
        go_simp
        refine hK.out _ _ g7 (fun _ => ?_)
        clear hK K
        refine wpAnyH_take (i := 21) (oi := { dst := some 88, op := Op.binOp BinOp.neq 9 (Operand.tmp 84) (Operand.tmp 87) 9, type := 4, pos := "law.go:31", after := #[{ on := 17, ground := Ground.data }, { on := 20, ground := Ground.data }, { on := 15, ground := Ground.guard }], guard := some (15, false) }) (v := ?vb95) rfl (by kernel_rfl) (by kernel_rfl) (by kernel_rfl) (fun _ _ _ h => h) (Or.inl ⟨by rfl, ?yb95⟩) g7 ?_
        case yb95 =>
          intro w hSw
          go_simp; all_goals (with_reducible rfl)
        simp only [Act.put, List.setIfInBounds_toArray, List.set_cons_zero, List.set_cons_succ]
        refine wpAnyH_take (i := 22) (oi := { dst := some 89, op := Op.pick (Operand.tmp 82) (Operand.const (Value.bool true)) (Operand.tmp 88), type := 4, pos := "law.go:31", after := #[{ on := 15, ground := Ground.data }, { on := 21, ground := Ground.data }], guard := none }) (v := ?vb96) rfl (by kernel_rfl) (by kernel_rfl) (by kernel_rfl) (fun _ _ _ h => h) (Or.inl ⟨by rfl, ?yb96⟩) g7 ?_
        case yb96 =>
          intro w hSw
          go_simp; all_goals (with_reducible rfl)
        simp only [Act.put, List.setIfInBounds_toArray, List.set_cons_zero, List.set_cons_succ]
        refine wpAnyH_take (i := 23) (oi := { dst := some 90, op := Op.move (Operand.tmp 89), type := 4, pos := "law.go:31", after := #[{ on := 22, ground := Ground.data }, { on := 19, ground := Ground.chain }], guard := none }) (v := ?vb97) rfl (by kernel_rfl) (by kernel_rfl) (by kernel_rfl) (fun _ _ _ h => h) (Or.inl ⟨by rfl, ?yb97⟩) g7 ?_
        case yb97 =>
          intro w hSw
          go_simp; all_goals (with_reducible rfl)
        simp only [Act.put, List.setIfInBounds_toArray, List.set_cons_zero, List.set_cons_succ]
        refine wpAnyH_take (i := 24) (oi := { dst := some 91, op := Op.move (Operand.tmp 9), type := 25, pos := "law.go:31", after := #[{ on := 23, ground := Ground.guard }], guard := some (23, false) }) (v := ?vb98) rfl (by kernel_rfl) (by kernel_rfl) (by kernel_rfl) (fun _ _ _ h => h) (Or.inl ⟨by rfl, ?yb98⟩) g7 ?_
        case yb98 =>
          intro w hSw
          go_simp; all_goals (with_reducible rfl)
        simp only [Act.put, List.setIfInBounds_toArray, List.set_cons_zero, List.set_cons_succ]
        refine wpAnyH_take (i := 25) (oi := { dst := some 92, op := Op.binOp BinOp.neq 25 (Operand.tmp 91) (Operand.const (Value.int IntKind.i64 0)) 25, type := 4, pos := "law.go:31", after := #[{ on := 24, ground := Ground.data }, { on := 23, ground := Ground.guard }], guard := some (23, false) }) (v := ?vb99) rfl (by kernel_rfl) (by kernel_rfl) (by kernel_rfl) (fun _ _ _ h => h) (Or.inl ⟨by rfl, ?yb99⟩) g7 ?_
        case yb99 =>
          intro w hSw
          go_simp; all_goals (with_reducible rfl)
        simp only [Act.put, List.setIfInBounds_toArray, List.set_cons_zero, List.set_cons_succ]
        refine wpAnyH_take (i := 26) (oi := { dst := some 93, op := Op.pick (Operand.tmp 90) (Operand.const (Value.bool true)) (Operand.tmp 92), type := 4, pos := "law.go:31", after := #[{ on := 23, ground := Ground.data }, { on := 25, ground := Ground.data }], guard := none }) (v := ?vb100) rfl (by kernel_rfl) (by kernel_rfl) (by kernel_rfl) (fun _ _ _ h => h) (Or.inl ⟨by rfl, ?yb100⟩) g7 ?_
        case yb100 =>
          intro w hSw
          go_simp; all_goals (with_reducible rfl)
        simp only [Act.put, List.setIfInBounds_toArray, List.set_cons_zero, List.set_cons_succ]
        refine wpAnyH_done (by kernel_rfl) ?_ _
        have gy := g3.trans (g7.mono g3.size)
        have HY := Lib.hid (HY3.out.below g7)
        clear g4 g5 g6 g7 hdr k5 k5b k6 k7 hS
        obtain ⟨hmb, hmb2⟩ := HMB.out
        go_wp2_with fail
        clear hmb hmb2
        have hdr7 : Below w7.heap.size w7 w7.drew := below_drew w7
        refine wp_region_held_drew (S := fun w' => Below w7.heap.size w7 w') (by kernel_rfl) hdr7 (fun hS => ?_)
        refine wpAnyH_take (i := 0) (oi := { dst := some 115, op := Op.move (Operand.tmp 10), type := 22, pos := "law.go:37", after := #[], guard := none }) (v := ?vc1) rfl (by kernel_rfl) (by kernel_rfl) (by kernel_rfl) (fun _ _ _ h => h) (Or.inl ⟨by rfl, ?yc1⟩) hS ?_
        case yc1 =>
          intro w hSw
          go_simp; all_goals (with_reducible rfl)
        simp only [Act.put, List.setIfInBounds_toArray, List.set_cons_zero, List.set_cons_succ]
        refine wpAnyH_take (i := 1) (oi := { dst := some 116, op := Op.convert 22 9 (Operand.tmp 115), type := 9, pos := "law.go:37", after := #[{ on := 0, ground := Ground.data }], guard := none }) (v := ?vc2) rfl (by kernel_rfl) (by kernel_rfl) (by kernel_rfl) (fun _ _ _ h => h) (Or.inl ⟨by rfl, ?yc2⟩) hS ?_
        case yc2 =>
          intro w hSw
          have k := run_str (HY.out.below hSw) capy
          rw [HLF.out] at k
          go_simp; all_goals (with_reducible rfl)
        simp only [Act.put, List.setIfInBounds_toArray, List.set_cons_zero, List.set_cons_succ]
        refine wpAnyH_take (i := 2) (oi := { dst := some 117, op := Op.move (Operand.tmp 0), type := 3, pos := "law.go:37", after := #[], guard := none }) (v := ?vc3) rfl (by kernel_rfl) (by kernel_rfl) (by kernel_rfl) (fun _ _ _ h => h) (Or.inl ⟨by rfl, ?yc3⟩) hS ?_
        case yc3 =>
          intro w hSw
          go_simp; all_goals (with_reducible rfl)
        simp only [Act.put, List.setIfInBounds_toArray, List.set_cons_zero, List.set_cons_succ]
        refine wpAnyH_take (i := 3) (oi := { dst := some 118, op := Op.move (Operand.tmp 2), type := 3, pos := "law.go:37", after := #[], guard := none }) (v := ?vc4) rfl (by kernel_rfl) (by kernel_rfl) (by kernel_rfl) (fun _ _ _ h => h) (Or.inl ⟨by rfl, ?yc4⟩) hS ?_
        case yc4 =>
          intro w hSw
          go_simp; all_goals (with_reducible rfl)
        simp only [Act.put, List.setIfInBounds_toArray, List.set_cons_zero, List.set_cons_succ]
        refine wpAnyH_ready (rs := [4]) (by kernel_rfl) (by simp) ?_
        refine (AllReadyH.cons (o := { dst := some 119, op := Op.call { callee := Callee.value (Operand.func 15), args := #[Operand.tmp 117, Operand.tmp 118], argTypes := #[3, 3] }, type := 22, pos := "law.go:37", after := #[{ on := 2, ground := Ground.data }, { on := 3, ground := Ground.data }], guard := none }) rfl (fun K hK => ?_) AllReadyH.nil)
        go_simp
        refine (rfoot_any b n s HSN.out HNN.out w7.drew).mono ?_
        rintro e w8 hd
        obtain ⟨A8, c8, rfl, _, _, hB8, hb8⟩ := hd.bytes
        have g8 := hdr7.trans (hb8.mono hdr7.size)
        have k8 := run_str hB8 c8
        rw [HLF.out] at k8
        rw [HLF.out]
        clear hB8 hb8 hd
        go_wp2_with fail
        refine hK.out _ _ g8 (fun _ => ?_)
        clear hK K
        refine wpAnyH_ready (rs := [5]) (by kernel_rfl) (by simp) ?_
        refine (AllReadyH.cons (o := { dst := some 120, op := Op.convert 22 9 (Operand.tmp 119), type := 9, pos := "law.go:37", after := #[{ on := 4, ground := Ground.data }], guard := none }) rfl (fun K hK => ?_) AllReadyH.nil)
        go_simp
        refine hK.out _ _ g8 (fun _ => ?_)
        clear hK K
        refine wpAnyH_take (i := 6) (oi := { dst := some 121, op := Op.binOp BinOp.eql 9 (Operand.tmp 116) (Operand.tmp 120) 9, type := 4, pos := "law.go:37", after := #[{ on := 1, ground := Ground.data }, { on := 5, ground := Ground.data }], guard := none }) (v := ?vc5) rfl (by kernel_rfl) (by kernel_rfl) (by kernel_rfl) (fun _ _ _ h => h) (Or.inl ⟨by rfl, ?yc5⟩) g8 ?_
        case yc5 =>
          intro w hSw
          go_simp; all_goals (with_reducible rfl)
        simp only [Act.put, List.setIfInBounds_toArray, List.set_cons_zero, List.set_cons_succ]
        refine wpAnyH_take (i := 7) (oi := { dst := some 122, op := Op.move (Operand.tmp 121), type := 4, pos := "law.go:37", after := #[{ on := 6, ground := Ground.data }, { on := 4, ground := Ground.chain }], guard := none }) (v := ?vc6) rfl (by kernel_rfl) (by kernel_rfl) (by kernel_rfl) (fun _ _ _ h => h) (Or.inl ⟨by rfl, ?yc6⟩) g8 ?_
        case yc6 =>
          intro w hSw
          go_simp; all_goals (with_reducible rfl)
        simp only [Act.put, List.setIfInBounds_toArray, List.set_cons_zero, List.set_cons_succ]
        refine wpAnyH_take (i := 8) (oi := { dst := some 123, op := Op.move (Operand.tmp 11), type := 25, pos := "law.go:37", after := #[{ on := 7, ground := Ground.guard }], guard := some (7, true) }) (v := ?vc7) rfl (by kernel_rfl) (by kernel_rfl) (by kernel_rfl) (fun _ _ _ h => h) (Or.inl ⟨by rfl, ?yc7⟩) g8 ?_
        case yc7 =>
          intro w hSw
          go_simp; all_goals (with_reducible rfl)
        simp only [Act.put, List.setIfInBounds_toArray, List.set_cons_zero, List.set_cons_succ]
        refine wpAnyH_take (i := 9) (oi := { dst := some 124, op := Op.binOp BinOp.eql 25 (Operand.tmp 123) (Operand.const (Value.int IntKind.i64 0)) 25, type := 4, pos := "law.go:37", after := #[{ on := 8, ground := Ground.data }, { on := 7, ground := Ground.guard }], guard := some (7, true) }) (v := ?vc8) rfl (by kernel_rfl) (by kernel_rfl) (by kernel_rfl) (fun _ _ _ h => h) (Or.inl ⟨by rfl, ?yc8⟩) g8 ?_
        case yc8 =>
          intro w hSw
          go_simp; all_goals (with_reducible rfl)
        simp only [Act.put, List.setIfInBounds_toArray, List.set_cons_zero, List.set_cons_succ]
        refine wpAnyH_take (i := 10) (oi := { dst := some 125, op := Op.pick (Operand.tmp 122) (Operand.tmp 124) (Operand.const (Value.bool false)), type := 4, pos := "law.go:37", after := #[{ on := 7, ground := Ground.data }, { on := 9, ground := Ground.data }], guard := none }) (v := ?vc9) rfl (by kernel_rfl) (by kernel_rfl) (by kernel_rfl) (fun _ _ _ h => h) (Or.inl ⟨by rfl, ?yc9⟩) g8 ?_
        case yc9 =>
          intro w hSw
          go_simp; all_goals (with_reducible rfl)
        simp only [Act.put, List.setIfInBounds_toArray, List.set_cons_zero, List.set_cons_succ]
        refine wpAnyH_take (i := 11) (oi := { dst := some 126, op := Op.move (Operand.tmp 125), type := 4, pos := "law.go:37", after := #[{ on := 10, ground := Ground.data }, { on := 7, ground := Ground.chain }], guard := none }) (v := ?vc10) rfl (by kernel_rfl) (by kernel_rfl) (by kernel_rfl) (fun _ _ _ h => h) (Or.inl ⟨by rfl, ?yc10⟩) g8 ?_
        case yc10 =>
          intro w hSw
          go_simp; all_goals (with_reducible rfl)
        simp only [Act.put, List.setIfInBounds_toArray, List.set_cons_zero, List.set_cons_succ]
        refine wpAnyH_ready (rs := [12]) (by kernel_rfl) (by simp) ?_
        refine (AllReadyH.cons (o := { dst := some 127, op := Op.call { callee := Callee.value (Operand.func 6), args := #[], argTypes := #[] }, type := 4, pos := "law.go:37", after := #[{ on := 11, ground := Ground.chain }, { on := 11, ground := Ground.guard }], guard := some (11, true) }) rfl (fun K hK => ?_) AllReadyH.nil)
        go_simp
        refine (fl_knows w8 (HT.out.below (gy.trans (g8.mono gy.size)))).mono ?_
        rintro e w9 ⟨rfl, hb9⟩
        have g9 := g8.trans (hb9.mono g8.size)
        go_wp2_with fail
        refine hK.out _ _ g9 (fun _ => ?_)
        clear hK K
        refine wpAnyH_take (i := 13) (oi := { dst := some 128, op := Op.pick (Operand.tmp 126) (Operand.tmp 127) (Operand.const (Value.bool false)), type := 4, pos := "law.go:37", after := #[{ on := 11, ground := Ground.data }, { on := 12, ground := Ground.data }], guard := none }) (v := ?vc11) rfl (by kernel_rfl) (by kernel_rfl) (by kernel_rfl) (fun _ _ _ h => h) (Or.inl ⟨by rfl, ?yc11⟩) g9 ?_
        case yc11 =>
          intro w hSw
          go_simp; all_goals (with_reducible rfl)
        simp only [Act.put, List.setIfInBounds_toArray, List.set_cons_zero, List.set_cons_succ]
        refine wpAnyH_take (i := 14) (oi := { dst := some 6, op := Op.assign (Operand.tmp 128), type := 4, pos := "law.go:37", after := #[{ on := 13, ground := Ground.data }, { on := 12, ground := Ground.chain }, { on := 0, ground := Ground.phase }, { on := 1, ground := Ground.phase }, { on := 2, ground := Ground.phase }, { on := 3, ground := Ground.phase }, { on := 4, ground := Ground.phase }, { on := 5, ground := Ground.phase }, { on := 6, ground := Ground.phase }, { on := 7, ground := Ground.phase }, { on := 8, ground := Ground.phase }, { on := 9, ground := Ground.phase }, { on := 10, ground := Ground.phase }, { on := 11, ground := Ground.phase }, { on := 12, ground := Ground.phase }, { on := 13, ground := Ground.phase }], guard := none }) (v := ?vc12) rfl (by kernel_rfl) (by kernel_rfl) (by kernel_rfl) (fun _ _ _ h => h) (Or.inl ⟨by rfl, ?yc12⟩) g9 ?_
        case yc12 =>
          intro w hSw
          go_simp; all_goals (with_reducible rfl)
        simp only [Act.put, List.setIfInBounds_toArray, List.set_cons_zero, List.set_cons_succ]
        refine wpAnyH_done (by kernel_rfl) ?_ _
        go_wp2_with fail
        go_ret
        exact ⟨rfl, gy.trans (g9.mono gy.size)⟩
end Go.Proofs.YtibkhajhmncgkaaDoor
