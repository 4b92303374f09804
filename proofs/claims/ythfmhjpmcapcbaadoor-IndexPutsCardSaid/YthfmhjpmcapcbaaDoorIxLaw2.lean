/- The contract of the law IndexPuts. -/
import Derived.Test.YthfmhjpmcapcbaaDoorIxRPut
namespace Go.Proofs.YthfmhjpmcapcbaaDoor
open Go.RowKit

set_option maxRecDepth 100000 in
set_option maxHeartbeats 4000000 in
theorem puts_law (A : Option Addr) (l : List (Int × Int)) (c : Nat) (B : Option Addr) (m : List UInt8) (d : Nat) (w : World) (hB : Recs w A l ∧ ∀ r ∈ l, I64R r) (_hc : l.length ≤ c) (_hm : c ≤ 9223372036854775807) (hM : Bytes w B m) (_hd : m.length ≤ d) (_hm2 : d ≤ 9223372036854775807) :
    Calls Tryd.prog 3 #[.slice A l.length c, .slice B m.length d] w (Holds w) := by
  by_cases h1 : 100 < l.length
  · have h1i : (100 : Int) < (l.length : Int) := by omega
    generalize l.length = L at *
    go_enter Tryd.func3, Tryd.ntmps3
    go_wp2_with fail
    refine (ixknows_any _).mono ?_
    rintro e w' ⟨rfl, hb⟩
    go_wp2_with fail
    go_ret
    exact ⟨rfl, hb⟩
  have h1i : ¬ (100 : Int) < (l.length : Int) := by omega
  by_cases h2 : 50 < m.length
  · have h2i : (50 : Int) < (m.length : Int) := by omega
    generalize l.length = L at *
    generalize m.length = M at *
    go_enter Tryd.func3, Tryd.ntmps3
    go_wp2_with fail
    refine (ixknows_any _).mono ?_
    rintro e w' ⟨rfl, hb⟩
    go_wp2_with fail
    go_ret
    exact ⟨rfl, hb⟩
  have h2i : ¬ (50 : Int) < (m.length : Int) := by omega
  obtain ⟨hR, hI⟩ := hB
  have HP := Lib.hid (ixput_any A l c w hR hI (by omega))
  have hli : (l.length : Int) ≤ 100 := by omega
  go_enter Tryd.func3, Tryd.ntmps3
  go_wp2_with fail
  refine HP.out.mono ?_
  rintro e w1 (⟨hall, v1, rfl, ho1, hb1⟩ | ⟨hall, rfl, hb1⟩)
  · obtain ⟨A5, c5, rfl, hc5, hm5, hB5⟩ := ho1.read
    have HAL := Lib.hid (as_any A l c w1 (hR.below hb1) (by omega))
    go_wp2_with fail
    refine HAL.out.mono ?_
    rintro e w2 ⟨v2, rfl, ho2, hb2⟩
    obtain ⟨A7, c7, rfl, hc7, hm7, hR7⟩ := ho2.read
    have hb02 : Below w.heap.size w w2 := hb1.trans (hb2.mono hb1.size)
    have hB52 := hB5.below hb2
    have HR7 := Lib.hid hR7
    have HB5 := Lib.hid hB52
    have hlen : 0 < (putR l).length ∧ (putR l).length ≤ 3000 := by
      have a1 := headB_length l.length
      have a2 := recB_length l
      have a3 : zerosN (bodyB l).length < 4 := by unfold zerosN; omega
      have a4 := sum1_length (padB (bodyB l))
      have a5 : (putR l).length = (headB l.length).length + (recB l).length + zerosN (bodyB l).length + 4 := by
        simp only [putR, List.length_append, a4]
        simp only [padB, bodyB, List.length_append, List.length_replicate]
      omega
    clear HAL HP ho1 ho2 hb1 hb2 hB5 hB52 hR7
    obtain ⟨N, hN⟩ : ∃ N, (putR l).length = N := ⟨_, rfl⟩
    have HN := Lib.hid hN
    rw [hN]
    rw [hN] at hlen hc5
    go_wp2_with fail
    go_loopw [8] (fun i wr => ∃ j : Nat, j ≤ l.length ∧ i = .int .i64 (j : Nat) ∧ Hid (Below w2.heap.size w2 wr)) (fun i _ => l.length - (intOf i).toNat)
    case atStart => exact ⟨0, by omega, rfl, Lib.hid (Below.refl _ _)⟩
    case round =>
      obtain ⟨j, hj, rfl, HBR⟩ := hrel
      by_cases hjl : j < l.length
      · have hji : (j : Int) < (l.length : Int) := by omega
        obtain ⟨b, off, rfl, hb, hcl⟩ := HR7.out.addr (by omega)
        have hcj := hcl j hjl
        have hrj := hI l[j] (List.getElem_mem hjl)
        have hfj : fitsR l[j] = true := List.all_eq_true.1 hall _ (List.getElem_mem hjl)
        have HF := Lib.hid (fun w' => rfits_any l[j] w' hrj)
        rw [hfj] at HF
        generalize l[j] = r at *
        obtain ⟨n1, n2⟩ := r
        have k1 : wr.cell? ⟨b, off + j * 2, none⟩ = some (.int .i64 n1) := (HBR.out.cell (p := ⟨b, off + j * 2, none⟩) hb).trans hcj.1
        have k2 : wr.cell? ⟨b, off + j * 2 + 1, none⟩ = some (.int .i64 n2) := (HBR.out.cell (p := ⟨b, off + j * 2 + 1, none⟩) hb).trans hcj.2
        clear hcl hcj hrj hfj
        go_wp2_with fail
        refine (HF.out wr).mono ?_
        rintro e w3 ⟨rfl, hb3⟩
        go_wp2_with fail
        exact ⟨⟨j + 1, by omega, by go_num, Lib.hid (HBR.out.trans (hb3.mono HBR.out.size))⟩, by simp [intOf]; omega⟩
      · obtain rfl : j = l.length := by omega
        have hoE : Own w2.heap.size (wr.alloc (.cells #[] 5)) (.slice (some ⟨wr.heap.size, 0, none⟩) 0 0) [] := Own.lit wr [] HBR.out.size (by simp)
        have hbE2 : Below w2.heap.size w2 (wr.alloc (.cells #[] 5)) := HBR.out.alloc HBR.out.size _
        have hBE := HB5.out.below hbE2
        have hM2 := hM.below hb02
        have hsz1 : ([] : List UInt8).length + (putR l).length ≤ 140737488355328 := by simp; omega
        clear hjl
        have hsz2 : (putR l).length + m.length ≤ 140737488355328 := by omega
        obtain ⟨T, hT⟩ : ∃ T, (putR l ++ m).length = T := ⟨_, rfl⟩
        have HT := Lib.hid hT
        have hTb : T ≤ 100000 := by rw [← hT, List.length_append]; omega
        go_wp2_with (at_builtin; first | (refine wpList_append_bytes rfl (.tmp 51) (.tmp 52) rfl w2.heap.size _ _ [] rfl hoE A5 (putR l) c5 (by rw [hN]; rfl) hBE hsz1 hbE2.size ?_; intro v3 w3 ho3 hg3; have hb3 : Below w2.heap.size w2 w3 := below_grown hbE2 hg3 hbE2.size (fun g e => (hoE.from_base g e).1); have hM3 := hM2.below hb3) | (refine wpList_append_bytes rfl (.tmp 53) (.tmp 54) rfl w2.heap.size _ _ (putR l) rfl ho3 B m d rfl hM3 hsz2 hb3.size ?_; intro v4 w4 ho4 hg4; have hb4 : Below w2.heap.size w2 w4 := below_grown hb3 hg4 hb3.size (fun g e => (ho3.from_base g e).1); obtain ⟨A4, c4, rfl, hc4, hm4, hB4⟩ := ho4.read; rw [HT.out]))
        have HG := Lib.hid (ixget_any A4 (putR l ++ m) c4 w4 hB4 hc4 hm4 (by omega))
        rw [getR_put l m (by omega) hall hI, hN, hT] at HG
        refine HG.out.mono ?_
        rintro e w8 ⟨v8, rfl, ho8, hb8⟩
        obtain ⟨A8, c8, rfl, hc8, hm8, hR8⟩ := ho8.read
        have hb28 : Below w2.heap.size w2 w8 := hb4.trans (hb8.mono hb4.size)
        have hb08 : Below w.heap.size w w8 := hb02.trans (hb28.mono hb02.size)
        have HBC := Lib.hid (HB5.out.below hb28)
        have HRP := Lib.hid (fun w' (h : Below w8.heap.size w8 w') => rixput_any A7 l c7 w' ((HR7.out.below hb28).below h) hall hI (by omega))
        have HAS := Lib.hid (fun w' (h : Below w8.heap.size w8 w') => as_any A8 l c8 w' (hR8.below h) (by omega))
        have HSM := Lib.hid (fun A10 c10 w' (h : Below w8.heap.size w8 w') (hr : Recs w' A10 l) => same_any A10 A7 l c10 c7 w' hr ((HR7.out.below hb28).below h) (by omega))
        have hdr : Below w8.heap.size w8 w8.drew := below_drew w8
        clear ho3 hg3 hb3 hM3 ho4 hg4 hc4 hm4 hB4 hoE hbE2 hBE hM2 hsz1 hsz2 HG ho8 hR8 hb8 hb4 hN hT hlen
        go_wp2_with fail
        refine wp_region_held_drew (S := fun w' => Below w8.heap.size w8 w') (by kernel_rfl) hdr (fun hS => ?_)
        refine wpAnyH_take (i := 0) (oi := { dst := some 60, op := Op.move (Operand.tmp 5), type := 23, pos := "law.go:40", after := #[], guard := none }) (v := ?vlp1) rfl (by kernel_rfl) (by kernel_rfl) (by kernel_rfl) (fun _ _ _ h => h) (Or.inl ⟨by rfl, ?ylp1⟩) hS ?_
        case ylp1 =>
          intro w hSw
          go_simp; all_goals (with_reducible rfl)
        simp only [Act.put, List.setIfInBounds_toArray, List.set_cons_zero, List.set_cons_succ]
        refine wpAnyH_take (i := 1) (oi := { dst := some 61, op := Op.convert 23 9 (Operand.tmp 60), type := 9, pos := "law.go:40", after := #[{ on := 0, ground := Ground.data }], guard := none }) (v := ?vlp2) rfl (by kernel_rfl) (by kernel_rfl) (by kernel_rfl) (fun _ _ _ h => h) (Or.inl ⟨by rfl, ?ylp2⟩) hS ?_
        case ylp2 =>
          intro w hSw
          have k := run_str (HBC.out.below hSw) c5
          rw [HN.out] at k
          go_simp; all_goals (with_reducible rfl)
        simp only [Act.put, List.setIfInBounds_toArray, List.set_cons_zero, List.set_cons_succ]
        refine wpAnyH_take (i := 2) (oi := { dst := some 62, op := Op.move (Operand.tmp 7), type := 28, pos := "law.go:40", after := #[], guard := none }) (v := ?vlp3) rfl (by kernel_rfl) (by kernel_rfl) (by kernel_rfl) (fun _ _ _ h => h) (Or.inl ⟨by rfl, ?ylp3⟩) hS ?_
        case ylp3 =>
          intro w hSw
          go_simp; all_goals (with_reducible rfl)
        simp only [Act.put, List.setIfInBounds_toArray, List.set_cons_zero, List.set_cons_succ]
        refine wpAnyH_ready (rs := [3]) (by kernel_rfl) (by simp) ?_
        refine (AllReadyH.cons (o := { dst := some 63, op := Op.call { callee := Callee.value (Operand.func 10), args := #[Operand.tmp 62], argTypes := #[28] }, type := 23, pos := "law.go:40", after := #[{ on := 2, ground := Ground.data }], guard := none }) rfl (fun K hK => ?_) AllReadyH.nil)
        go_simp
        refine (HRP.out w8.drew hdr).mono ?_
        rintro e w9 ⟨v9, rfl, ho9, hb9⟩
        obtain ⟨A9, c9, rfl, hc9, hm9, hB9⟩ := ho9.read
        have g9 : Below w8.heap.size w8 w9 := hdr.trans (hb9.mono hdr.size)
        have k9 := run_str hB9 c9
        rw [HN.out] at k9
        rw [HN.out]
        clear ho9 hB9 hb9 hc9
        go_wp2_with fail
        refine hK.out _ _ g9 (fun _ => ?_)
        clear hK K
        refine wpAnyH_ready (rs := [4]) (by kernel_rfl) (by simp) ?_
        refine (AllReadyH.cons (o := { dst := some 64, op := Op.convert 23 9 (Operand.tmp 63), type := 9, pos := "law.go:40", after := #[{ on := 3, ground := Ground.data }], guard := none }) rfl (fun K hK => ?_) AllReadyH.nil)
        go_simp
        refine hK.out _ _ g9 (fun _ => ?_)
        clear hK K
        refine wpAnyH_ready (rs := [5]) (by kernel_rfl) (by simp) ?_
        refine (AllReadyH.cons (o := { dst := some 65, op := Op.binOp BinOp.eql 9 (Operand.tmp 61) (Operand.tmp 64) 9, type := 4, pos := "law.go:40", after := #[{ on := 1, ground := Ground.data }, { on := 4, ground := Ground.data }], guard := none }) rfl (fun K hK => ?_) AllReadyH.nil)
        go_simp
        refine hK.out _ _ g9 (fun _ => ?_)
        clear hK K
        refine wpAnyH_take (i := 6) (oi := { dst := some 66, op := Op.move (Operand.tmp 65), type := 4, pos := "law.go:40", after := #[{ on := 5, ground := Ground.data }, { on := 3, ground := Ground.chain }], guard := none }) (v := ?vlp4) rfl (by kernel_rfl) (by kernel_rfl) (by kernel_rfl) (fun _ _ _ h => h) (Or.inl ⟨by rfl, ?ylp4⟩) g9 ?_
        case ylp4 =>
          intro w hSw
          go_simp; all_goals (with_reducible rfl)
        simp only [Act.put, List.setIfInBounds_toArray, List.set_cons_zero, List.set_cons_succ]
        refine wpAnyH_take (i := 7) (oi := { dst := some 67, op := Op.move (Operand.tmp 6), type := 25, pos := "law.go:40", after := #[{ on := 6, ground := Ground.guard }], guard := some (6, true) }) (v := ?vlp5) rfl (by kernel_rfl) (by kernel_rfl) (by kernel_rfl) (fun _ _ _ h => h) (Or.inl ⟨by rfl, ?ylp5⟩) g9 ?_
        case ylp5 =>
          intro w hSw
          go_simp; all_goals (with_reducible rfl)
        simp only [Act.put, List.setIfInBounds_toArray, List.set_cons_zero, List.set_cons_succ]
        refine wpAnyH_take (i := 8) (oi := { dst := some 68, op := Op.binOp BinOp.eql 25 (Operand.tmp 67) (Operand.const (Value.int IntKind.i64 0)) 25, type := 4, pos := "law.go:40", after := #[{ on := 7, ground := Ground.data }, { on := 6, ground := Ground.guard }], guard := some (6, true) }) (v := ?vlp6) rfl (by kernel_rfl) (by kernel_rfl) (by kernel_rfl) (fun _ _ _ h => h) (Or.inl ⟨by rfl, ?ylp6⟩) g9 ?_
        case ylp6 =>
          intro w hSw
          go_simp; all_goals (with_reducible rfl)
        simp only [Act.put, List.setIfInBounds_toArray, List.set_cons_zero, List.set_cons_succ]
        refine wpAnyH_take (i := 9) (oi := { dst := some 69, op := Op.pick (Operand.tmp 66) (Operand.tmp 68) (Operand.const (Value.bool false)), type := 4, pos := "law.go:40", after := #[{ on := 6, ground := Ground.data }, { on := 8, ground := Ground.data }], guard := none }) (v := ?vlp7) rfl (by kernel_rfl) (by kernel_rfl) (by kernel_rfl) (fun _ _ _ h => h) (Or.inl ⟨by rfl, ?ylp7⟩) g9 ?_
        case ylp7 =>
          intro w hSw
          go_simp; all_goals (with_reducible rfl)
        simp only [Act.put, List.setIfInBounds_toArray, List.set_cons_zero, List.set_cons_succ]
        refine wpAnyH_take (i := 10) (oi := { dst := some 70, op := Op.move (Operand.tmp 69), type := 4, pos := "law.go:40", after := #[{ on := 9, ground := Ground.data }, { on := 6, ground := Ground.chain }], guard := none }) (v := ?vlp8) rfl (by kernel_rfl) (by kernel_rfl) (by kernel_rfl) (fun _ _ _ h => h) (Or.inl ⟨by rfl, ?ylp8⟩) g9 ?_
        case ylp8 =>
          intro w hSw
          go_simp; all_goals (with_reducible rfl)
        simp only [Act.put, List.setIfInBounds_toArray, List.set_cons_zero, List.set_cons_succ]
        refine wpAnyH_take (i := 11) (oi := { dst := some 71, op := Op.move (Operand.tmp 9), type := 22, pos := "law.go:40", after := #[{ on := 10, ground := Ground.guard }], guard := some (10, true) }) (v := ?vlp9) rfl (by kernel_rfl) (by kernel_rfl) (by kernel_rfl) (fun _ _ _ h => h) (Or.inl ⟨by rfl, ?ylp9⟩) g9 ?_
        case ylp9 =>
          intro w hSw
          go_simp; all_goals (with_reducible rfl)
        simp only [Act.put, List.setIfInBounds_toArray, List.set_cons_zero, List.set_cons_succ]
        refine wpAnyH_take (i := 13) (oi := { dst := some 73, op := Op.move (Operand.tmp 7), type := 28, pos := "law.go:40", after := #[{ on := 10, ground := Ground.guard }], guard := some (10, true) }) (v := ?vlp10) rfl (by kernel_rfl) (by kernel_rfl) (by kernel_rfl) (fun _ _ _ h => h) (Or.inl ⟨by rfl, ?ylp10⟩) g9 ?_
        case ylp10 =>
          intro w hSw
          go_simp; all_goals (with_reducible rfl)
        simp only [Act.put, List.setIfInBounds_toArray, List.set_cons_zero, List.set_cons_succ]
        refine wpAnyH_ready (rs := [12]) (by kernel_rfl) (by simp) ?_
        refine (AllReadyH.cons (o := { dst := some 72, op := Op.call { callee := Callee.value (Operand.func 7), args := #[Operand.tmp 71], argTypes := #[22] }, type := 28, pos := "law.go:40", after := #[{ on := 11, ground := Ground.data }, { on := 10, ground := Ground.chain }, { on := 10, ground := Ground.guard }], guard := some (10, true) }) rfl (fun K hK => ?_) AllReadyH.nil)
        go_simp
        refine (HAS.out w9 g9).mono ?_
        rintro e w10 ⟨v10, rfl, ho10, hb10⟩
        obtain ⟨A10, c10, rfl, hc10, hm10, hB10⟩ := ho10.read
        have g10 : Below w8.heap.size w8 w10 := g9.trans (hb10.mono g9.size)
        clear ho10 hb10 hc10
        go_wp2_with fail
        refine hK.out _ _ g10 (fun _ => ?_)
        clear hK K
        refine wpAnyH_ready (rs := [14]) (by kernel_rfl) (by simp) ?_
        refine (AllReadyH.cons (o := { dst := some 74, op := Op.call { callee := Callee.value (Operand.func 11), args := #[Operand.tmp 72, Operand.tmp 73], argTypes := #[28, 28] }, type := 4, pos := "law.go:40", after := #[{ on := 12, ground := Ground.data }, { on := 13, ground := Ground.data }, { on := 12, ground := Ground.chain }, { on := 10, ground := Ground.guard }], guard := some (10, true) }) rfl (fun K hK => ?_) AllReadyH.nil)
        go_simp
        refine (HSM.out A10 c10 w10 g10 hB10).mono ?_
        rintro e w11 ⟨rfl, hb11⟩
        have g11 : Below w8.heap.size w8 w11 := g10.trans (hb11.mono g10.size)
        clear hb11
        go_wp2_with fail
        refine hK.out _ _ g11 (fun _ => ?_)
        clear hK K
        refine wpAnyH_take (i := 15) (oi := { dst := some 75, op := Op.pick (Operand.tmp 70) (Operand.tmp 74) (Operand.const (Value.bool false)), type := 4, pos := "law.go:40", after := #[{ on := 10, ground := Ground.data }, { on := 14, ground := Ground.data }], guard := none }) (v := ?vlp11) rfl (by kernel_rfl) (by kernel_rfl) (by kernel_rfl) (fun _ _ _ h => h) (Or.inl ⟨by rfl, ?ylp11⟩) g11 ?_
        case ylp11 =>
          intro w hSw
          go_simp; all_goals (with_reducible rfl)
        simp only [Act.put, List.setIfInBounds_toArray, List.set_cons_zero, List.set_cons_succ]
        refine wpAnyH_take (i := 16) (oi := { dst := some 76, op := Op.move (Operand.tmp 75), type := 4, pos := "law.go:40", after := #[{ on := 15, ground := Ground.data }, { on := 14, ground := Ground.chain }], guard := none }) (v := ?vlp12) rfl (by kernel_rfl) (by kernel_rfl) (by kernel_rfl) (fun _ _ _ h => h) (Or.inl ⟨by rfl, ?ylp12⟩) g11 ?_
        case ylp12 =>
          intro w hSw
          go_simp; all_goals (with_reducible rfl)
        simp only [Act.put, List.setIfInBounds_toArray, List.set_cons_zero, List.set_cons_succ]
        refine wpAnyH_take (i := 17) (oi := { dst := some 77, op := Op.move (Operand.tmp 10), type := 3, pos := "law.go:40", after := #[{ on := 16, ground := Ground.guard }], guard := some (16, true) }) (v := ?vlp13) rfl (by kernel_rfl) (by kernel_rfl) (by kernel_rfl) (fun _ _ _ h => h) (Or.inl ⟨by rfl, ?ylp13⟩) g11 ?_
        case ylp13 =>
          intro w hSw
          go_simp; all_goals (with_reducible rfl)
        simp only [Act.put, List.setIfInBounds_toArray, List.set_cons_zero, List.set_cons_succ]
        refine wpAnyH_take (i := 18) (oi := { dst := some 78, op := Op.move (Operand.tmp 5), type := 23, pos := "law.go:40", after := #[{ on := 16, ground := Ground.guard }], guard := some (16, true) }) (v := ?vlp14) rfl (by kernel_rfl) (by kernel_rfl) (by kernel_rfl) (fun _ _ _ h => h) (Or.inl ⟨by rfl, ?ylp14⟩) g11 ?_
        case ylp14 =>
          intro w hSw
          go_simp; all_goals (with_reducible rfl)
        simp only [Act.put, List.setIfInBounds_toArray, List.set_cons_zero, List.set_cons_succ]
        refine wpAnyH_take (i := 19) (oi := { dst := some 79, op := Op.call { callee := Callee.builtin Builtin.len, args := #[Operand.tmp 78], argTypes := #[23] }, type := 3, pos := "law.go:40", after := #[{ on := 18, ground := Ground.data }, { on := 16, ground := Ground.guard }], guard := some (16, true) }) (v := ?vlp15) rfl (by kernel_rfl) (by kernel_rfl) (by kernel_rfl) (fun _ _ _ h => h) (Or.inl ⟨by rfl, ?ylp15⟩) g11 ?_
        case ylp15 =>
          intro w hSw
          go_simp; all_goals (with_reducible rfl)
        simp only [Act.put, List.setIfInBounds_toArray, List.set_cons_zero, List.set_cons_succ]
        refine wpAnyH_take (i := 20) (oi := { dst := some 80, op := Op.binOp BinOp.eql 3 (Operand.tmp 77) (Operand.tmp 79) 3, type := 4, pos := "law.go:40", after := #[{ on := 17, ground := Ground.data }, { on := 19, ground := Ground.data }, { on := 16, ground := Ground.guard }], guard := some (16, true) }) (v := ?vlp16) rfl (by kernel_rfl) (by kernel_rfl) (by kernel_rfl) (fun _ _ _ h => h) (Or.inl ⟨by rfl, ?ylp16⟩) g11 ?_
        case ylp16 =>
          intro w hSw
          go_simp; all_goals (with_reducible rfl)
        simp only [Act.put, List.setIfInBounds_toArray, List.set_cons_zero, List.set_cons_succ]
        refine wpAnyH_take (i := 21) (oi := { dst := some 81, op := Op.pick (Operand.tmp 76) (Operand.tmp 80) (Operand.const (Value.bool false)), type := 4, pos := "law.go:40", after := #[{ on := 16, ground := Ground.data }, { on := 20, ground := Ground.data }], guard := none }) (v := ?vlp17) rfl (by kernel_rfl) (by kernel_rfl) (by kernel_rfl) (fun _ _ _ h => h) (Or.inl ⟨by rfl, ?ylp17⟩) g11 ?_
        case ylp17 =>
          intro w hSw
          go_simp; all_goals (with_reducible rfl)
        simp only [Act.put, List.setIfInBounds_toArray, List.set_cons_zero, List.set_cons_succ]
        refine wpAnyH_take (i := 22) (oi := { dst := some 82, op := Op.move (Operand.tmp 81), type := 4, pos := "law.go:40", after := #[{ on := 21, ground := Ground.data }, { on := 16, ground := Ground.chain }], guard := none }) (v := ?vlp18) rfl (by kernel_rfl) (by kernel_rfl) (by kernel_rfl) (fun _ _ _ h => h) (Or.inl ⟨by rfl, ?ylp18⟩) g11 ?_
        case ylp18 =>
          intro w hSw
          go_simp; all_goals (with_reducible rfl)
        simp only [Act.put, List.setIfInBounds_toArray, List.set_cons_zero, List.set_cons_succ]
        refine wpAnyH_take (i := 23) (oi := { dst := some 83, op := Op.move (Operand.tmp 11), type := 25, pos := "law.go:40", after := #[{ on := 22, ground := Ground.guard }], guard := some (22, true) }) (v := ?vlp19) rfl (by kernel_rfl) (by kernel_rfl) (by kernel_rfl) (fun _ _ _ h => h) (Or.inl ⟨by rfl, ?ylp19⟩) g11 ?_
        case ylp19 =>
          intro w hSw
          go_simp; all_goals (with_reducible rfl)
        simp only [Act.put, List.setIfInBounds_toArray, List.set_cons_zero, List.set_cons_succ]
        refine wpAnyH_take (i := 24) (oi := { dst := some 84, op := Op.binOp BinOp.eql 25 (Operand.tmp 83) (Operand.const (Value.int IntKind.i64 0)) 25, type := 4, pos := "law.go:40", after := #[{ on := 23, ground := Ground.data }, { on := 22, ground := Ground.guard }], guard := some (22, true) }) (v := ?vlp20) rfl (by kernel_rfl) (by kernel_rfl) (by kernel_rfl) (fun _ _ _ h => h) (Or.inl ⟨by rfl, ?ylp20⟩) g11 ?_
        case ylp20 =>
          intro w hSw
          go_simp; all_goals (with_reducible rfl)
        simp only [Act.put, List.setIfInBounds_toArray, List.set_cons_zero, List.set_cons_succ]
        refine wpAnyH_take (i := 25) (oi := { dst := some 85, op := Op.pick (Operand.tmp 82) (Operand.tmp 84) (Operand.const (Value.bool false)), type := 4, pos := "law.go:40", after := #[{ on := 22, ground := Ground.data }, { on := 24, ground := Ground.data }], guard := none }) (v := ?vlp21) rfl (by kernel_rfl) (by kernel_rfl) (by kernel_rfl) (fun _ _ _ h => h) (Or.inl ⟨by rfl, ?ylp21⟩) g11 ?_
        case ylp21 =>
          intro w hSw
          go_simp; all_goals (with_reducible rfl)
        simp only [Act.put, List.setIfInBounds_toArray, List.set_cons_zero, List.set_cons_succ]
        refine wpAnyH_take (i := 26) (oi := { dst := some 86, op := Op.move (Operand.tmp 85), type := 4, pos := "law.go:40", after := #[{ on := 25, ground := Ground.data }, { on := 22, ground := Ground.chain }], guard := none }) (v := ?vlp22) rfl (by kernel_rfl) (by kernel_rfl) (by kernel_rfl) (fun _ _ _ h => h) (Or.inl ⟨by rfl, ?ylp22⟩) g11 ?_
        case ylp22 =>
          intro w hSw
          go_simp; all_goals (with_reducible rfl)
        simp only [Act.put, List.setIfInBounds_toArray, List.set_cons_zero, List.set_cons_succ]
        refine wpAnyH_ready (rs := [27]) (by kernel_rfl) (by simp) ?_
        refine (AllReadyH.cons (o := { dst := some 87, op := Op.call { callee := Callee.value (Operand.func 5), args := #[], argTypes := #[] }, type := 4, pos := "law.go:40", after := #[{ on := 26, ground := Ground.chain }, { on := 26, ground := Ground.guard }], guard := some (26, true) }) rfl (fun K hK => ?_) AllReadyH.nil)
        go_simp
        refine (ixknows_any w11).mono ?_
        rintro e w12 ⟨rfl, hb12⟩
        have g12 : Below w8.heap.size w8 w12 := g11.trans (hb12.mono g11.size)
        go_wp2_with fail
        refine hK.out _ _ g12 (fun _ => ?_)
        clear hK K
        refine wpAnyH_ready (rs := [28]) (by kernel_rfl) (by simp) ?_
        refine (AllReadyH.cons (o := { dst := some 88, op := Op.pick (Operand.tmp 86) (Operand.tmp 87) (Operand.const (Value.bool false)), type := 4, pos := "law.go:40", after := #[{ on := 26, ground := Ground.data }, { on := 27, ground := Ground.data }], guard := none }) rfl (fun K hK => ?_) AllReadyH.nil)
        go_simp
        refine hK.out _ _ g12 (fun _ => ?_)
        clear hK K
        refine wpAnyH_ready (rs := [29]) (by kernel_rfl) (by simp) ?_
        refine (AllReadyH.cons (o := { dst := some 4, op := Op.assign (Operand.tmp 88), type := 4, pos := "law.go:40", after := #[{ on := 28, ground := Ground.data }, { on := 27, ground := Ground.chain }, { on := 0, ground := Ground.phase }, { on := 1, ground := Ground.phase }, { on := 2, ground := Ground.phase }, { on := 3, ground := Ground.phase }, { on := 4, ground := Ground.phase }, { on := 5, ground := Ground.phase }, { on := 6, ground := Ground.phase }, { on := 7, ground := Ground.phase }, { on := 8, ground := Ground.phase }, { on := 9, ground := Ground.phase }, { on := 10, ground := Ground.phase }, { on := 11, ground := Ground.phase }, { on := 12, ground := Ground.phase }, { on := 13, ground := Ground.phase }, { on := 14, ground := Ground.phase }, { on := 15, ground := Ground.phase }, { on := 16, ground := Ground.phase }, { on := 17, ground := Ground.phase }, { on := 18, ground := Ground.phase }, { on := 19, ground := Ground.phase }, { on := 20, ground := Ground.phase }, { on := 21, ground := Ground.phase }, { on := 22, ground := Ground.phase }, { on := 23, ground := Ground.phase }, { on := 24, ground := Ground.phase }, { on := 25, ground := Ground.phase }, { on := 26, ground := Ground.phase }, { on := 27, ground := Ground.phase }, { on := 28, ground := Ground.phase }], guard := none }) rfl (fun K hK => ?_) AllReadyH.nil)
        go_simp
        refine hK.out _ _ g12 (fun _ => ?_)
        clear hK K
        refine wpAnyH_done (by kernel_rfl) ?_ _
        go_wp2_with fail
        go_ret
        exact ⟨rfl, hb08.trans (g12.mono hb08.size)⟩
  · have HAL := Lib.hid (as_any A l c w1 (hR.below hb1) (by omega))
    go_wp2_with fail
    refine HAL.out.mono ?_
    rintro e w2 ⟨v2, rfl, ho2, hb2⟩
    obtain ⟨A7, c7, rfl, hc7, hm7, hR7⟩ := ho2.read
    have hb02 : Below w.heap.size w w2 := hb1.trans (hb2.mono hb1.size)
    have HR7 := Lib.hid hR7
    clear HAL HP ho2 hb1 hb2 hR7
    go_wp2_with fail
    go_loopw [8] (fun i wr => ∃ j : Nat, j ≤ l.length ∧ i = .int .i64 (j : Nat) ∧ Hid ((l.take j).all fitsR = true) ∧ Hid (Below w2.heap.size w2 wr)) (fun i _ => l.length - (intOf i).toNat)
    case atStart => exact ⟨0, by omega, rfl, Lib.hid rfl, Lib.hid (Below.refl _ _)⟩
    case round =>
      obtain ⟨j, hj, rfl, hall2, HBR⟩ := hrel
      by_cases hjl : j < l.length
      · have hji : (j : Int) < (l.length : Int) := by omega
        obtain ⟨b, off, rfl, hb, hcl⟩ := HR7.out.addr (by omega)
        have hcj := hcl j hjl
        have hrj := hI l[j] (List.getElem_mem hjl)
        have hnx : l.take (j + 1) = l.take j ++ [l[j]] := by rw [List.take_succ_eq_append_getElem hjl]
        have HF := Lib.hid (fun w' => rfits_any l[j] w' hrj)
        generalize l[j] = r at *
        have HALL : fitsR r = true → Hid ((l.take (j + 1)).all fitsR = true) := fun h => Lib.hid (by rw [hnx, List.all_append, hall2.out]; simp [h])
        generalize hfr : fitsR r = fr at *
        obtain ⟨n1, n2⟩ := r
        have k1 : wr.cell? ⟨b, off + j * 2, none⟩ = some (.int .i64 n1) := (HBR.out.cell (p := ⟨b, off + j * 2, none⟩) hb).trans hcj.1
        have k2 : wr.cell? ⟨b, off + j * 2 + 1, none⟩ = some (.int .i64 n2) := (HBR.out.cell (p := ⟨b, off + j * 2 + 1, none⟩) hb).trans hcj.2
        clear hcl hcj hrj hnx hfr
        cases fr with
        | true =>
          have hal := HALL rfl
          clear HALL
          go_wp2_with fail
          refine (HF.out wr).mono ?_
          rintro e w3 ⟨rfl, hb3⟩
          go_wp2_with fail
          exact ⟨⟨j + 1, by omega, by go_num, hal, Lib.hid (HBR.out.trans (hb3.mono HBR.out.size))⟩, by simp [intOf]; omega⟩
        | false =>
          clear HALL
          go_wp2_with fail
          refine (HF.out wr).mono ?_
          rintro e w3 ⟨rfl, hb3⟩
          have hb03 : Below w.heap.size w w3 := hb02.trans ((HBR.out.trans (hb3.mono HBR.out.size)).mono hb02.size)
          go_wp2_with fail
          refine (ixknows_any w3).mono ?_
          rintro e w4 ⟨rfl, hb4⟩
          go_wp2_with fail
          go_ret
          exact ⟨rfl, hb03.trans (hb4.mono hb03.size)⟩
      · obtain rfl : j = l.length := by omega
        rw [List.take_length, hall] at hall2
        exact absurd hall2.out (by decide)
end Go.Proofs.YthfmhjpmcapcbaaDoor
