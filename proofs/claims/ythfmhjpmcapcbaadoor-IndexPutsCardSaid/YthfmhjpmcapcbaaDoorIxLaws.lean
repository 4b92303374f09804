/- The contract of the law IndexGets; knows. -/
import Derived.Test.YthfmhjpmcapcbaaDoorIxMath
namespace Go.Proofs.YthfmhjpmcapcbaaDoor
open Go.RowKit

theorem getR_small (l : List UInt8) : 2 * (getR l).1.length ≤ l.length := by
  rcases hq : getR l with ⟨rs, n, e⟩
  by_cases he : e = 0
  · subst he; exact (putR_get hq).2.1
  · have : rs = [] := by
      have h := hq
      unfold getR at h
      split at h
      · simp only [Prod.mk.injEq] at h; exact h.1.symm
      split at h
      · simp only [Prod.mk.injEq] at h; exact h.1.symm
      split at h
      · simp only [Prod.mk.injEq] at h; exact h.1.symm
      split at h
      · simp only [Prod.mk.injEq] at h; exact h.1.symm
      · simp only [Prod.mk.injEq] at h; exact absurd h.2.2.symm he
    subst this; simp
theorem putR_nil : getR (putR []) = ([], 8, 0) ∧ (putR []).length = 8 := by
  have h := getR_put [] [] (by simp) rfl (by simp)
  rw [List.append_nil] at h
  have h8 : (putR []).length = 8 := by
    have h1 : (padB (bodyB [])).length = 4 := by decide
    simp only [putR, List.length_append, sum1_length, h1]
  rw [h8] at h
  exact ⟨h, h8⟩
theorem getR_one : getR [1] = ([], 0, 8) := by
  unfold getR
  rw [if_neg (by simp), if_pos (by simp)]

set_option maxRecDepth 100000 in
set_option maxHeartbeats 2000000 in
theorem ixknows_any (w : World) : Calls Tryd.prog 5 #[] w (Holds w) := by
  have HP := Lib.hid (ixput_any none [] 0 w (.inl rfl) (by simp) (by simp))
  go_enter Tryd.func5, Tryd.ntmps5
  go_wp2_with fail
  refine HP.out.mono ?_
  rintro e w1 (⟨_, v, rfl, ho, hb1⟩ | ⟨h, _⟩)
  case inr => simp at h
  obtain ⟨A, c, rfl, hc, hm, hB⟩ := ho.read
  have HG := Lib.hid (ixget_any A (putR []) c w1 hB hc hm (by rw [putR_nil.2]; omega))
  rw [putR_nil.1, putR_nil.2] at HG
  have HL : Hid ((putR []).length = 8) := Lib.hid putR_nil.2
  rw [HL.out]
  clear HP ho hc hB
  go_wp2_with fail
  refine HG.out.mono ?_
  rintro e w2 ⟨v2, rfl, ho2, hb2⟩
  obtain ⟨A2, c2, rfl, _, _, _⟩ := ho2.read
  have HG2 := Lib.hid (ixget_any (some ⟨w2.heap.size, 0, none⟩) [1] 1 (w2.alloc (.cells #[.int .u8 1] 5)) (.inr ⟨w2.heap.size, 0, rfl, by simp, by
    intro k hk
    obtain rfl : k = 0 := by simpa using hk
    simp⟩) (by simp) (by omega) (by simp))
  rw [getR_one] at HG2
  clear HG ho2
  go_wp2_with fail
  refine HG2.out.mono ?_
  rintro e w3 ⟨v3, rfl, ho3, hb3⟩
  go_wp2_with fail
  go_ret
  have h02 : Below w.heap.size w w2 := hb1.trans (hb2.mono hb1.size)
  exact ⟨rfl, (h02.alloc h02.size _).trans (hb3.mono (by have := h02.size; simp; omega))⟩

set_option maxRecDepth 100000 in
set_option maxHeartbeats 2000000 in
theorem gets_law (A : Option Addr) (l : List UInt8) (c : Nat) (w : World) (hB : Bytes w A l) (hc : l.length ≤ c) (hm : c ≤ 9223372036854775807) :
    Calls Tryd.prog 4 #[.slice A l.length c] w (Holds w) := by
  by_cases h6 : 600 < l.length
  · have h6i : (600 : Int) < (l.length : Int) := by omega
    generalize l.length = L at *
    go_enter Tryd.func4, Tryd.ntmps4
    go_wp2_with fail
    refine (ixknows_any _).mono ?_
    rintro e w' ⟨rfl, hb⟩
    go_wp2_with fail
    go_ret
    exact ⟨rfl, hb⟩
  have h6i : ¬ (600 : Int) < (l.length : Int) := by omega
  have HG := Lib.hid (ixget_any A l c w hB hc hm (by omega))
  have HR := Lib.hid (fun w' (h : Bytes w' A l) => rixget_any A l c w' h hc hm (by omega))
  have hsm := getR_small l
  have HPG := Lib.hid (fun rs n (h : getR l = (rs, n, 0)) => putR_get h)
  rcases hq : getR l with ⟨rs, n, er⟩
  rw [hq] at HG HR hsm HPG
  have hsm' : 2 * rs.length ≤ l.length := hsm
  have HB := Lib.hid hB
  clear hq hsm hB
  go_enter Tryd.func4, Tryd.ntmps4
  go_wp2_with fail
  refine HG.out.mono ?_
  rintro e w1 ⟨v1, rfl, ho1, hb1⟩
  have HR1 := Lib.hid (HR.out w1 (HB.out.below hb1))
  clear HG HR
  go_wp2_with fail
  refine HR1.out.mono ?_
  rintro e w2 ⟨v2, rfl, ho2, hb2⟩
  have ho12 := ho1.below hb2
  have hb02 : Below w.heap.size w w2 := hb1.trans (hb2.mono hb1.size)
  obtain ⟨A1, c1, rfl, hc1, hm1, hR1⟩ := ho12.read
  have HAS := Lib.hid (as_any A1 rs c1 w2 hR1 (by omega))
  clear HR1 ho1 hb1 hb2
  go_wp2_with fail
  refine HAS.out.mono ?_
  rintro e w3 ⟨v3, rfl, ho3, hb3⟩
  have ho23 := ho2.below (hb3.mono (by have := hb3.size; omega))
  obtain ⟨A3, c3, rfl, hc3, hm3, hR3⟩ := ho3.read
  obtain ⟨A2, c2, rfl, hc2, hm2, hR2⟩ := ho23.read
  have HSM := Lib.hid (same_any A3 A2 rs c3 c2 w3 hR3 hR2 (by omega))
  have hR13 := hR1.below hb3
  clear HAS hR1 ho2 ho3 ho23 ho12 hR2 hR3
  go_wp2_with fail
  refine HSM.out.mono ?_
  rintro e w4 ⟨rfl, hb4⟩
  have hb04 : Below w.heap.size w w4 := (hb02.trans (hb3.mono hb02.size)).trans (hb4.mono (hb02.trans (hb3.mono hb02.size)).size)
  have hR14 := hR13.below hb4
  clear HSM hR13 hb3 hb4 hb02
  by_cases he : er = 0
  · subst he
    obtain ⟨p1, p2, p3, p4, p5⟩ := HPG.out rs n rfl
    have HP := Lib.hid (ixput_any A1 rs c1 w4 hR14 p4 (by omega))
    have HTK := Lib.hid p5
    have hnc : (n : Int) ≤ (c : Int) := by omega
    have hnl : (l.take n).length = n := by rw [List.length_take]; omega
    have hlp : Hid ((putR rs).length = n) := Lib.hid (by rw [p5]; exact hnl)
    go_wp2_with fail
    refine HP.out.mono ?_
    rintro e w5 (⟨_, v5, rfl, ho5, hb5⟩ | ⟨h, _⟩)
    case inr => rw [p3] at h; cases h
    obtain ⟨A5, c5, rfl, hc5, hm5, hB5⟩ := ho5.read
    have hb05 : Below w.heap.size w w5 := hb04.trans (hb5.mono hb04.size)
    have HBC := Lib.hid hB5
    have HBN : Hid (Bytes w5 A (l.take n)) := Lib.hid ((HB.out.below hb05).take n)
    have hdr : Below w5.heap.size w5 w5.drew := below_drew w5
    have HSL := Lib.hid (And.intro hnc (show (0 : Int) ≤ (n : Int) by omega))
    have HLP := hlp
    have HNL := Lib.hid hnl
    rw [HLP.out]
    clear ho5 hc5 hB5 hnl hlp p5 HPG HP hR14
    go_wp2_with fail
    refine wp_region_held_drew (S := fun w' => Below w5.heap.size w5 w') (by kernel_rfl) hdr (fun hS => ?_)
    refine wpAnyH_take (i := 0) (oi := { dst := some 50, op := Op.move (Operand.tmp 9), type := 23, pos := "law.go:57", after := #[], guard := none }) (v := ?vla1) rfl (by kernel_rfl) (by kernel_rfl) (by kernel_rfl) (fun _ _ _ h => h) (Or.inl ⟨by rfl, ?yla1⟩) hS ?_
    case yla1 =>
      intro w hSw
      go_simp; all_goals (with_reducible rfl)
    simp only [Act.put, List.setIfInBounds_toArray, List.set_cons_zero, List.set_cons_succ]
    refine wpAnyH_take (i := 1) (oi := { dst := some 51, op := Op.convert 23 9 (Operand.tmp 50), type := 9, pos := "law.go:57", after := #[{ on := 0, ground := Ground.data }], guard := none }) (v := ?vla2) rfl (by kernel_rfl) (by kernel_rfl) (by kernel_rfl) (fun _ _ _ h => h) (Or.inl ⟨by rfl, ?yla2⟩) hS ?_
    case yla2 =>
      intro w hSw
      have k := run_str (HBC.out.below hSw) c5
      rw [HLP.out, HTK.out] at k
      go_simp; all_goals (with_reducible rfl)
    simp only [Act.put, List.setIfInBounds_toArray, List.set_cons_zero, List.set_cons_succ]
    refine wpAnyH_take (i := 2) (oi := { dst := some 52, op := Op.move (Operand.tmp 0), type := 23, pos := "law.go:57", after := #[], guard := none }) (v := ?vla3) rfl (by kernel_rfl) (by kernel_rfl) (by kernel_rfl) (fun _ _ _ h => h) (Or.inl ⟨by rfl, ?yla3⟩) hS ?_
    case yla3 =>
      intro w hSw
      go_simp; all_goals (with_reducible rfl)
    simp only [Act.put, List.setIfInBounds_toArray, List.set_cons_zero, List.set_cons_succ]
    refine wpAnyH_take (i := 3) (oi := { dst := some 53, op := Op.move (Operand.tmp 4), type := 3, pos := "law.go:57", after := #[], guard := none }) (v := ?vla4) rfl (by kernel_rfl) (by kernel_rfl) (by kernel_rfl) (fun _ _ _ h => h) (Or.inl ⟨by rfl, ?yla4⟩) hS ?_
    case yla4 =>
      intro w hSw
      go_simp; all_goals (with_reducible rfl)
    simp only [Act.put, List.setIfInBounds_toArray, List.set_cons_zero, List.set_cons_succ]
    refine wpAnyH_take (i := 4) (oi := { dst := some 54, op := Op.slice 23 (Operand.tmp 52) none (some (Operand.tmp 53)) none, type := 23, pos := "law.go:57", after := #[{ on := 2, ground := Ground.data }, { on := 3, ground := Ground.data }], guard := none }) (v := ?vla5) rfl (by kernel_rfl) (by kernel_rfl) (by kernel_rfl) (fun _ _ _ h => h) (Or.inl ⟨by rfl, ?yla5⟩) hS ?_
    case yla5 =>
      intro w hSw
      obtain ⟨s1, s2⟩ := HSL.out
      go_simp; all_goals (with_reducible rfl)
    simp only [Act.put, List.setIfInBounds_toArray, List.set_cons_zero, List.set_cons_succ]
    refine wpAnyH_take (i := 5) (oi := { dst := some 55, op := Op.convert 23 9 (Operand.tmp 54), type := 9, pos := "law.go:57", after := #[{ on := 4, ground := Ground.data }], guard := none }) (v := ?vla6) rfl (by kernel_rfl) (by kernel_rfl) (by kernel_rfl) (fun _ _ _ h => h) (Or.inl ⟨by rfl, ?yla6⟩) hS ?_
    case yla6 =>
      intro w hSw
      have k := run_str (HBN.out.below hSw) c
      rw [HNL.out] at k
      go_simp; all_goals (with_reducible rfl)
    simp only [Act.put, List.setIfInBounds_toArray, List.set_cons_zero, List.set_cons_succ]
    refine wpAnyH_take (i := 6) (oi := { dst := some 56, op := Op.binOp BinOp.eql 9 (Operand.tmp 51) (Operand.tmp 55) 9, type := 4, pos := "law.go:57", after := #[{ on := 1, ground := Ground.data }, { on := 5, ground := Ground.data }], guard := none }) (v := ?vla7) rfl (by kernel_rfl) (by kernel_rfl) (by kernel_rfl) (fun _ _ _ h => h) (Or.inl ⟨by rfl, ?yla7⟩) hS ?_
    case yla7 =>
      intro w hSw
      go_simp; all_goals (with_reducible rfl)
    simp only [Act.put, List.setIfInBounds_toArray, List.set_cons_zero, List.set_cons_succ]
    refine wpAnyH_take (i := 7) (oi := { dst := some 57, op := Op.move (Operand.tmp 56), type := 4, pos := "law.go:57", after := #[{ on := 6, ground := Ground.data }], guard := none }) (v := ?vla8) rfl (by kernel_rfl) (by kernel_rfl) (by kernel_rfl) (fun _ _ _ h => h) (Or.inl ⟨by rfl, ?yla8⟩) hS ?_
    case yla8 =>
      intro w hSw
      go_simp; all_goals (with_reducible rfl)
    simp only [Act.put, List.setIfInBounds_toArray, List.set_cons_zero, List.set_cons_succ]
    refine wpAnyH_take (i := 8) (oi := { dst := some 58, op := Op.move (Operand.tmp 10), type := 25, pos := "law.go:57", after := #[{ on := 7, ground := Ground.guard }], guard := some (7, true) }) (v := ?vla9) rfl (by kernel_rfl) (by kernel_rfl) (by kernel_rfl) (fun _ _ _ h => h) (Or.inl ⟨by rfl, ?yla9⟩) hS ?_
    case yla9 =>
      intro w hSw
      go_simp; all_goals (with_reducible rfl)
    simp only [Act.put, List.setIfInBounds_toArray, List.set_cons_zero, List.set_cons_succ]
    refine wpAnyH_take (i := 9) (oi := { dst := some 59, op := Op.binOp BinOp.eql 25 (Operand.tmp 58) (Operand.const (Value.int IntKind.i64 0)) 25, type := 4, pos := "law.go:57", after := #[{ on := 8, ground := Ground.data }, { on := 7, ground := Ground.guard }], guard := some (7, true) }) (v := ?vla10) rfl (by kernel_rfl) (by kernel_rfl) (by kernel_rfl) (fun _ _ _ h => h) (Or.inl ⟨by rfl, ?yla10⟩) hS ?_
    case yla10 =>
      intro w hSw
      go_simp; all_goals (with_reducible rfl)
    simp only [Act.put, List.setIfInBounds_toArray, List.set_cons_zero, List.set_cons_succ]
    refine wpAnyH_take (i := 10) (oi := { dst := some 60, op := Op.pick (Operand.tmp 57) (Operand.tmp 59) (Operand.const (Value.bool false)), type := 4, pos := "law.go:57", after := #[{ on := 7, ground := Ground.data }, { on := 9, ground := Ground.data }], guard := none }) (v := ?vla11) rfl (by kernel_rfl) (by kernel_rfl) (by kernel_rfl) (fun _ _ _ h => h) (Or.inl ⟨by rfl, ?yla11⟩) hS ?_
    case yla11 =>
      intro w hSw
      go_simp; all_goals (with_reducible rfl)
    simp only [Act.put, List.setIfInBounds_toArray, List.set_cons_zero, List.set_cons_succ]
    refine wpAnyH_take (i := 11) (oi := { dst := some 61, op := Op.move (Operand.tmp 60), type := 4, pos := "law.go:57", after := #[{ on := 10, ground := Ground.data }, { on := 7, ground := Ground.chain }], guard := none }) (v := ?vla12) rfl (by kernel_rfl) (by kernel_rfl) (by kernel_rfl) (fun _ _ _ h => h) (Or.inl ⟨by rfl, ?yla12⟩) hS ?_
    case yla12 =>
      intro w hSw
      go_simp; all_goals (with_reducible rfl)
    simp only [Act.put, List.setIfInBounds_toArray, List.set_cons_zero, List.set_cons_succ]
    refine wpAnyH_ready (rs := [12]) (by kernel_rfl) (by simp) ?_
    refine (AllReadyH.cons (o := { dst := some 62, op := Op.call { callee := Callee.value (Operand.func 5), args := #[], argTypes := #[] }, type := 4, pos := "law.go:57", after := #[{ on := 11, ground := Ground.chain }, { on := 11, ground := Ground.guard }], guard := some (11, true) }) rfl (fun K hK => ?_) AllReadyH.nil)
    go_simp
    refine (ixknows_any w5.drew).mono ?_
    rintro e w6 ⟨rfl, hb6⟩
    have g6 : Below w5.heap.size w5 w6 := hdr.trans (hb6.mono hdr.size)
    go_wp2_with fail
    refine hK.out _ _ g6 (fun _ => ?_)
    clear hK K
    refine wpAnyH_ready (rs := [13]) (by kernel_rfl) (by simp) ?_
    refine (AllReadyH.cons (o := { dst := some 63, op := Op.pick (Operand.tmp 61) (Operand.tmp 62) (Operand.const (Value.bool false)), type := 4, pos := "law.go:57", after := #[{ on := 11, ground := Ground.data }, { on := 12, ground := Ground.data }], guard := none }) rfl (fun K hK => ?_) AllReadyH.nil)
    go_simp
    refine hK.out _ _ g6 (fun _ => ?_)
    clear hK K
    refine wpAnyH_ready (rs := [14]) (by kernel_rfl) (by simp) ?_
    refine (AllReadyH.cons (o := { dst := some 2, op := Op.assign (Operand.tmp 63), type := 4, pos := "law.go:57", after := #[{ on := 13, ground := Ground.data }, { on := 12, ground := Ground.chain }, { on := 0, ground := Ground.phase }, { on := 1, ground := Ground.phase }, { on := 2, ground := Ground.phase }, { on := 3, ground := Ground.phase }, { on := 4, ground := Ground.phase }, { on := 5, ground := Ground.phase }, { on := 6, ground := Ground.phase }, { on := 7, ground := Ground.phase }, { on := 8, ground := Ground.phase }, { on := 9, ground := Ground.phase }, { on := 10, ground := Ground.phase }, { on := 11, ground := Ground.phase }, { on := 12, ground := Ground.phase }, { on := 13, ground := Ground.phase }], guard := none }) rfl (fun K hK => ?_) AllReadyH.nil)
    go_simp
    refine hK.out _ _ g6 (fun _ => ?_)
    clear hK K
    refine wpAnyH_done (by kernel_rfl) ?_ _
    go_wp2_with fail
    go_ret
    exact ⟨rfl, hb05.trans (g6.mono hb05.size)⟩
  · have hei : (0 : Int) < (er : Int) := by omega
    clear he
    go_wp2_with fail
    refine (ixknows_any _).mono ?_
    rintro e w' ⟨rfl, hb⟩
    go_wp2_with fail
    go_ret
    exact ⟨rfl, hb04.trans (hb.mono hb04.size)⟩
end Go.Proofs.YthfmhjpmcapcbaaDoor
