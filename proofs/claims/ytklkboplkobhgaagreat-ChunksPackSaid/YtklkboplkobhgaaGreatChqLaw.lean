/- ChunksPack: for every input the law returns true. -/
import Derived.Test.YtklkboplkobhgaaGreatChqPackA
import Derived.Test.YtklkboplkobhgaaGreatChkKnows
import Derived.Deep.RegionHeld3
namespace Go.Proofs.YtklkboplkobhgaaGreat
set_option maxRecDepth 100000
open Go.RowKit

theorem packGo_A (k : PkS) (A : Option Addr) (c : Nat) : ∀ (l : List (Nat × Nat)) (z : CodS × Bool), packGo { k with A := A, cD := c } l z = packGo k l z
  | [], _ => rfl
  | x :: l, z => by
    have h := packGo_A k A c l (chunkOf k x.1 x.2 z.1 z.2).2
    show ((chunkOf k x.1 x.2 z.1 z.2).1 ++ (packGo { k with A := A, cD := c } l (chunkOf k x.1 x.2 z.1 z.2).2).1, (packGo { k with A := A, cD := c } l (chunkOf k x.1 x.2 z.1 z.2).2).2) = _
    rw [h]; rfl
theorem packB_A (k : PkS) (A : Option Addr) (c : Nat) : packB { k with A := A, cD := c } = packB k := by
  unfold packB
  exact congrArg (fun z : List UInt8 × CodS × Bool => z.1 ++ [0]) (packGo_A k A c _ _)
set_option maxRecDepth 100000 in
set_option maxHeartbeats 4000000 in
theorem chunks_law (A : Option Addr) (D : List UInt8) (c : Nat) (lc lp pb nice chunk block check : Int) (chain : Value) (dict : Nat) (w : World) (hB : Bytes w A D ∧ ∀ a, A = some a → a.block < w.heap.size) (hc : D.length ≤ c) (hm : c ≤ 9223372036854775807) (_ : dict < 4294967296) :
    Calls Tryz.prog 3 #[.slice A D.length c, OptV lc lp pb nice chunk block check chain dict] w (Holds w) := by
  obtain ⟨W, hW⟩ : ∃ W, w.alloc (.cells #[.int .i64 lc, .int .i64 lp, .int .i64 pb, .int .i64 nice, .int .i64 chunk, .int .i64 block, .int .i64 check, chain, .int .u32 (dict : Nat)] 26) = W := ⟨_, rfl⟩
  obtain ⟨hrow, hbW⟩ := optBox (vs := optRow lc lp pb nice chunk block check chain dict) hW
  have HCE : Hid (∀ W', Below W.heap.size W W' → W'.cell? ⟨w.heap.size, 0, none⟩ = some (.int .i64 lc) ∧ W'.cell? ⟨w.heap.size, 1, none⟩ = some (.int .i64 lp) ∧ W'.cell? ⟨w.heap.size, 2, none⟩ = some (.int .i64 pb) ∧ W'.cell? ⟨w.heap.size, 3, none⟩ = some (.int .i64 nice) ∧ W'.cell? ⟨w.heap.size, 4, none⟩ = some (.int .i64 chunk) ∧ W'.cell? ⟨w.heap.size, 5, none⟩ = some (.int .i64 block) ∧ W'.cell? ⟨w.heap.size, 6, none⟩ = some (.int .i64 check) ∧ W'.cell? ⟨w.heap.size, 7, none⟩ = some chain ∧ W'.cell? ⟨w.heap.size, 8, none⟩ = some (.int .u32 (dict : Nat))) := Lib.hid (fun W' hb' => by
    have r := (hb'.block _ (Array.getElem?_eq_some_iff.1 hrow).1).trans hrow
    refine ⟨?_, ?_, ?_, ?_, ?_, ?_, ?_, ?_, ?_⟩ <;> (rw [cell_of_row W' _ _ _ _ _ r]; rfl))
  obtain ⟨c0, c1, c2, c3, c4, c5, c6, c7, c8⟩ := HCE.out W (Below.refl _ _)
  have HW := Lib.hid hW
  have HB := Lib.hid hbW
  have HBY := Lib.hid hB
  have HCC := Lib.hid hc
  have HKN := Lib.hid (fun W => knows_any W)
  have hmi : (D.length : Int) ≤ 9223372036854775807 := by omega
  obtain ⟨W1, hW1⟩ : ∃ W1, W.alloc (.cells #[] 5) = W1 := ⟨_, rfl⟩
  have HW1 := Lib.hid hW1
  have HO1 : Hid (Own W.heap.size W1 (.slice (some ⟨W.heap.size, 0, none⟩) 0 0) []) := Lib.hid (by rw [← hW1]; exact Own.lit W [] (Nat.le_refl _) (by simp))
  have HB1 : Hid (Below W.heap.size W W1) := Lib.hid (by rw [← hW1]; exact (Below.refl _ _).alloc (Nat.le_refl _) _)
  clear hrow hW hbW hB hc hm hW1
  by_cases hbig : (400 : Int) < (D.length : Int)
  · go_enter Tryz.func3, Tryz.ntmps3
    go_upto_region 1 with fail
    rw [HW.out]
    go_wp2_with fail
    refine (HKN.out W).mono ?_
    rintro e w1 ⟨rfl, hb⟩
    go_wp2_with fail
    go_ret
    exact ⟨rfl, HB.out.trans (hb.mono HB.out.size)⟩
  · have HLEN : Hid (([] : List UInt8).length + D.length ≤ 140737488355328) := Lib.hid (by simp; omega)
    have HF := Lib.hid (fun (W : World) => fine_any lc lp pb nice chunk block check chain dict W)
    have HRF := Lib.hid (fun (W : World) => rfine_any lc lp pb nice chunk block check chain dict W)
    have HBD1 := Lib.hid (HBY.out.1.below (HB.out.trans (HB1.out.mono HB.out.size)))
    cases hf : fineB lc lp pb nice chunk dict with
    | false =>
      have HPB := Lib.hid (fun (A2 : Option Addr) (cc2 : Nat) (W2 : World) => pack_bad (.slice A2 D.length cc2) lc lp pb nice chunk block check chain dict W2 hf)
      rw [hf] at HF HRF
      clear hf
      go_enter Tryz.func3, Tryz.ntmps3
      go_upto_region 1 with fail
      rw [HW.out]
      go_upto_region 4 with (at_builtin; rw [HW1.out]; refine wpList_append_bytes ?_ (.tmp 13) (.tmp 14) ?_ W.heap.size W1 _ [] ?_ HO1.out A D c ?_ HBD1.out HLEN.out HB1.out.size ?_; rfl; rfl; rfl; rfl; intro v2 w2 ho2 hg2; rw [List.nil_append] at ho2; have HB2 := Lib.hid (below_grown HB1.out hg2 HB1.out.size (fun g e => (HO1.out.from_base g e).1)); have HO2 := Lib.hid ho2; clear ho2 hg2)
      obtain ⟨A2, cc2, rfl, hcc2, hcm2, hB2⟩ := HO2.out.read
      have HBY2 := Lib.hid hB2
      clear hB2 c0 c1 c2 c3 c4 c5 c6 c7 c8
      obtain ⟨c0, c1, c2, c3, c4, c5, c6, c7, c8⟩ := HCE.out w2 HB2.out
      go_wp2_with fail
      refine (HPB.out A2 cc2 w2).mono ?_
      rintro e w3 ⟨rfl, hb3⟩
      have HB23 := Lib.hid hb3
      have HB3 := Lib.hid (HB2.out.trans (hb3.mono HB2.out.size))
      clear hb3 c0 c1 c2 c3 c4 c5 c6 c7 c8
      obtain ⟨c0, c1, c2, c3, c4, c5, c6, c7, c8⟩ := HCE.out w3 HB3.out
      go_wp2_with fail
      refine (HRF.out w3).mono ?_
      rintro e w4 ⟨rfl, hb4⟩
      have HB24 := Lib.hid (HB23.out.trans (hb4.mono HB23.out.size))
      have HB4 := Lib.hid (HB3.out.trans (hb4.mono HB3.out.size))
      clear hb4 c0 c1 c2 c3 c4 c5 c6 c7 c8
      obtain ⟨c0, c1, c2, c3, c4, c5, c6, c7, c8⟩ := HCE.out w4 HB4.out
      go_wp2_with fail
      refine (HF.out w4).mono ?_
      rintro e w5 ⟨rfl, hb5⟩
      have HB25 := Lib.hid (HB24.out.trans (hb5.mono HB24.out.size))
      have HB5 := Lib.hid (HB4.out.trans (hb5.mono HB4.out.size))
      have k1 := run_str (HBY2.out.below HB25.out) cc2
      have k2 := run_str (HBY.out.1.below (HB.out.trans (HB5.out.mono HB.out.size))) c
      clear hb5 c0 c1 c2 c3 c4 c5 c6 c7 c8
      go_wp2_with fail
      refine (HKN.out w5).mono ?_
      rintro e w6 ⟨rfl, hb6⟩
      go_wp2_with fail
      go_ret
      exact ⟨rfl, HB.out.trans ((HB5.out.trans (hb6.mono HB5.out.size)).mono HB.out.size)⟩
    | true =>
      have hf2 := hf
      unfold fineB permB at hf2
      rw [Bool.and_eq_true, decide_eq_true_iff, decide_eq_true_iff] at hf2
      obtain ⟨p1, p2, p3, p4⟩ := hf2
      obtain ⟨lc, rfl⟩ : ∃ n : Nat, lc = n := ⟨lc.toNat, by omega⟩
      obtain ⟨lp, rfl⟩ : ∃ n : Nat, lp = n := ⟨lp.toNat, by omega⟩
      obtain ⟨pb, rfl⟩ : ∃ n : Nat, pb = n := ⟨pb.toNat, by omega⟩
      obtain ⟨PB, hPB⟩ : ∃ PB, packB ⟨A, D, c, lc, lp, pb, nice, chunk, block, check, chain, dict, 0⟩ = PB := ⟨_, rfl⟩
      have hok : ∀ A2 cc2, PkO ⟨A2, D, cc2, lc, lp, pb, nice, chunk, block, check, chain, dict, 0⟩ (OptV (lc : Nat) (lp : Nat) (pb : Nat) nice chunk block check chain dict) := fun A2 cc2 =>
        ⟨rfl, show lc ≤ 4 by omega, show lp ≤ 4 by omega, show pb ≤ 4 by omega, show lc + lp ≤ 4 by omega, p2, p3, p4⟩
      have HPK : Hid (∀ (A2 : Option Addr) (cc2 : Nat) (W2 : World), Bytes W2 A2 D → (∀ a, A2 = some a → a.block < W2.heap.size) → D.length ≤ cc2 → Calls Tryz.prog 5 #[.slice A2 D.length cc2, OptV (lc : Nat) (lp : Nat) (pb : Nat) nice chunk block check chain dict] W2 (PackDone W2 PB)) := Lib.hid (fun A2 cc2 W2 h1 h2 h3 => by
        have h := pack_good ⟨A2, D, cc2, lc, lp, pb, nice, chunk, block, check, chain, dict, 0⟩ _ W2 (hok A2 cc2) h1 h2 h3 (show D.length ≤ 100000 by omega)
        rw [show packB ⟨A2, D, cc2, lc, lp, pb, nice, chunk, block, check, chain, dict, 0⟩ = PB from (packB_A ⟨A, D, c, lc, lp, pb, nice, chunk, block, check, chain, dict, 0⟩ A2 cc2).trans hPB] at h
        exact h)
      have HRP : Hid (∀ W2 : World, Below W.heap.size W W2 → Calls Tryz.prog 8 #[.slice A D.length c, OptV (lc : Nat) (lp : Nat) (pb : Nat) nice chunk block check chain dict] W2 (GivesB W2 PB)) := Lib.hid (fun W2 h2 => by
        have hbw := HB.out.trans (h2.mono HB.out.size)
        have h := rpack_good ⟨A, D, c, lc, lp, pb, nice, chunk, block, check, chain, dict, 0⟩ _ W2 (hok A c) (HBY.out.1.below hbw) (fun a ha => Nat.lt_of_lt_of_le (HBY.out.2 a ha) hbw.size) HCC.out (show D.length ≤ 100000 by omega)
        rw [hPB] at h
        exact h)
      rw [hf] at HF HRF
      clear hf p1 p2 p3 p4 hPB hok
      go_enter Tryz.func3, Tryz.ntmps3
      go_upto_region 1 with fail
      rw [HW.out]
      go_upto_region 4 with (at_builtin; rw [HW1.out]; refine wpList_append_bytes ?_ (.tmp 13) (.tmp 14) ?_ W.heap.size W1 _ [] ?_ HO1.out A D c ?_ HBD1.out HLEN.out HB1.out.size ?_; rfl; rfl; rfl; rfl; intro v2 w2 ho2 hg2; rw [List.nil_append] at ho2; have HB2 := Lib.hid (below_grown HB1.out hg2 HB1.out.size (fun g e => (HO1.out.from_base g e).1)); have HO2 := Lib.hid ho2; clear ho2 hg2)
      obtain ⟨A2, cc2, rfl, hcc2, hcm2, hB2⟩ := HO2.out.read
      have HBY2 := Lib.hid hB2
      have HPK2 := Lib.hid (HPK.out A2 cc2 w2 hB2 (fun a ha => (HO2.out.from_base a.block (by rw [ha]; rfl)).2) hcc2)
      clear hB2 c0 c1 c2 c3 c4 c5 c6 c7 c8
      obtain ⟨c0, c1, c2, c3, c4, c5, c6, c7, c8⟩ := HCE.out w2 HB2.out
      go_wp2_with fail
      refine HPK2.out.mono ?_
      rintro e w3 ⟨v3, rfl, ho3, hb3⟩
      obtain ⟨A3, cc3, rfl, hcc3, hcm3, hB3⟩ := ho3.read
      have HBY3 := Lib.hid hB3
      have HB23 := Lib.hid hb3
      have HB3' := Lib.hid (HB2.out.trans (hb3.mono HB2.out.size))
      clear ho3 hB3 hb3 c0 c1 c2 c3 c4 c5 c6 c7 c8
      obtain ⟨c0, c1, c2, c3, c4, c5, c6, c7, c8⟩ := HCE.out w3 HB3'.out
      go_wp2_with fail
      refine (HRF.out w3).mono ?_
      rintro e w4 ⟨rfl, hb4⟩
      have HB34 := Lib.hid hb4
      have HB24 := Lib.hid (HB23.out.trans (hb4.mono HB23.out.size))
      have HB4 := Lib.hid (HB3'.out.trans (hb4.mono HB3'.out.size))
      clear hb4 c0 c1 c2 c3 c4 c5 c6 c7 c8
      obtain ⟨c0, c1, c2, c3, c4, c5, c6, c7, c8⟩ := HCE.out w4 HB4.out
      go_wp2_with fail
      refine (HF.out w4).mono ?_
      rintro e w5 ⟨rfl, hb5⟩
      have HB25 := Lib.hid (HB24.out.trans (hb5.mono HB24.out.size))
      have HBW5 := Lib.hid (HB4.out.trans (hb5.mono HB4.out.size))
      have HB3 := Lib.hid (HBY3.out.below (HB34.out.trans (hb5.mono HB34.out.size)))
      have k1 := run_str (HBY2.out.below HB25.out) cc2
      have k2 := run_str (HBY.out.1.below (HB.out.trans (HBW5.out.mono HB.out.size))) c
      clear hb5 c0 c1 c2 c3 c4 c5 c6 c7 c8
      go_upto_region 10 with fail
      clear k1 k2
      have hdr : Below w5.heap.size w5 w5.drew := ⟨rfl, rfl, rfl, Nat.le_refl _, fun _ _ => rfl⟩
      refine wp_region_held_drew (S := fun w' => Below w5.heap.size w5 w') (by kernel_rfl) hdr (fun hS => ?_)
      refine wpAnyH_take (i := 0) (oi := { dst := some 47, op := Op.move (Operand.tmp 6), type := 22, pos := "law.go:37", after := #[], guard := none }) (v := ?vqz1) rfl (by kernel_rfl) (by kernel_rfl) (by kernel_rfl) (fun _ _ _ h => h) (Or.inl ⟨by rfl, ?yqz1⟩) hS ?_
      case yqz1 =>
        intro w hSw
        go_simp; all_goals (with_reducible rfl)
      simp only [Act.put, List.setIfInBounds_toArray, List.set_cons_zero, List.set_cons_succ]
      refine wpAnyH_take (i := 1) (oi := { dst := some 48, op := Op.convert 22 9 (Operand.tmp 47), type := 9, pos := "law.go:37", after := #[{ on := 0, ground := Ground.data }], guard := none }) (v := ?vqz2) rfl (by kernel_rfl) (by kernel_rfl) (by kernel_rfl) (fun _ _ _ h => h) (Or.inl ⟨by rfl, ?yqz2⟩) hS ?_
      case yqz2 =>
        intro w hSw
        have ks := run_str (HB3.out.below hSw) cc3
        go_simp; all_goals (with_reducible rfl)
      simp only [Act.put, List.setIfInBounds_toArray, List.set_cons_zero, List.set_cons_succ]
      refine wpAnyH_take (i := 2) (oi := { dst := some 49, op := Op.move (Operand.tmp 0), type := 22, pos := "law.go:37", after := #[], guard := none }) (v := ?vqz3) rfl (by kernel_rfl) (by kernel_rfl) (by kernel_rfl) (fun _ _ _ h => h) (Or.inl ⟨by rfl, ?yqz3⟩) hS ?_
      case yqz3 =>
        intro w hSw
        go_simp; all_goals (with_reducible rfl)
      simp only [Act.put, List.setIfInBounds_toArray, List.set_cons_zero, List.set_cons_succ]
      refine wpAnyH_take (i := 3) (oi := { dst := some 50, op := Op.load 26 (Operand.tmp 3), type := 26, pos := "law.go:37", after := #[], guard := none }) (v := ?vqz4) rfl (by kernel_rfl) (by kernel_rfl) (by kernel_rfl) (fun _ _ _ h => h) (Or.inl ⟨by rfl, ?yqz4⟩) hS ?_
      case yqz4 =>
        intro w hSw
        obtain ⟨c0, c1, c2, c3, c4, c5, c6, c7, c8⟩ := HCE.out w (HBW5.out.trans (hSw.mono HBW5.out.size))
        go_simp; all_goals (with_reducible rfl)
      simp only [Act.put, List.setIfInBounds_toArray, List.set_cons_zero, List.set_cons_succ]
      refine wpAnyH_ready (rs := [4]) (by kernel_rfl) (by simp) ?_
      refine (AllReadyH.cons (o := { dst := some 51, op := Op.call { callee := Callee.value (Operand.func 8), args := #[Operand.tmp 49, Operand.tmp 50], argTypes := #[22, 26] }, type := 22, pos := "law.go:37", after := #[{ on := 2, ground := Ground.data }, { on := 3, ground := Ground.data }], guard := none }) rfl (fun K hK => ?_) AllReadyH.nil)
      go_simp
      refine (HRP.out _ (HBW5.out.trans (hdr.mono HBW5.out.size))).mono ?_
      rintro e w6 ⟨v6, rfl, ho6, hb6⟩
      obtain ⟨A6, cc6, rfl, _, _, hB6⟩ := ho6.read
      have kr := run_str hB6 cc6
      have g6 := hdr.trans (hb6.mono hdr.size)
      clear ho6 hb6
      go_wp2_with fail
      refine hK.out _ _ g6 (fun _ => ?_)
      clear hK K
      refine wpAnyH_ready (rs := [5]) (by kernel_rfl) (by simp) ?_
      refine (AllReadyH.cons (o := { dst := some 52, op := Op.convert 22 9 (Operand.tmp 51), type := 9, pos := "law.go:37", after := #[{ on := 4, ground := Ground.data }], guard := none }) rfl (fun K hK => ?_) AllReadyH.nil)
      go_simp
      refine hK.out _ _ g6 (fun _ => ?_)
      clear hK K
      refine wpAnyH_take (i := 6) (oi := { dst := some 53, op := Op.binOp BinOp.eql 9 (Operand.tmp 48) (Operand.tmp 52) 9, type := 4, pos := "law.go:37", after := #[{ on := 1, ground := Ground.data }, { on := 5, ground := Ground.data }], guard := none }) (v := ?vqz5) rfl (by kernel_rfl) (by kernel_rfl) (by kernel_rfl) (fun _ _ _ h => h) (Or.inl ⟨by rfl, ?yqz5⟩) g6 ?_
      case yqz5 =>
        intro w hSw
        go_simp; all_goals (with_reducible rfl)
      simp only [Act.put, List.setIfInBounds_toArray, List.set_cons_zero, List.set_cons_succ]
      refine wpAnyH_take (i := 7) (oi := { dst := some 54, op := Op.move (Operand.tmp 53), type := 4, pos := "law.go:37", after := #[{ on := 6, ground := Ground.data }, { on := 4, ground := Ground.chain }], guard := none }) (v := ?vqz6) rfl (by kernel_rfl) (by kernel_rfl) (by kernel_rfl) (fun _ _ _ h => h) (Or.inl ⟨by rfl, ?yqz6⟩) g6 ?_
      case yqz6 =>
        intro w hSw
        go_simp; all_goals (with_reducible rfl)
      simp only [Act.put, List.setIfInBounds_toArray, List.set_cons_zero, List.set_cons_succ]
      refine wpAnyH_take (i := 8) (oi := { dst := some 55, op := Op.move (Operand.tmp 7), type := 28, pos := "law.go:37", after := #[{ on := 7, ground := Ground.guard }], guard := some (7, true) }) (v := ?vqz7) rfl (by kernel_rfl) (by kernel_rfl) (by kernel_rfl) (fun _ _ _ h => h) (Or.inl ⟨by rfl, ?yqz7⟩) g6 ?_
      case yqz7 =>
        intro w hSw
        go_simp; all_goals (with_reducible rfl)
      simp only [Act.put, List.setIfInBounds_toArray, List.set_cons_zero, List.set_cons_succ]
      refine wpAnyH_take (i := 9) (oi := { dst := some 56, op := Op.binOp BinOp.eql 28 (Operand.tmp 55) (Operand.const (Value.int IntKind.i64 0)) 28, type := 4, pos := "law.go:37", after := #[{ on := 8, ground := Ground.data }, { on := 7, ground := Ground.guard }], guard := some (7, true) }) (v := ?vqz8) rfl (by kernel_rfl) (by kernel_rfl) (by kernel_rfl) (fun _ _ _ h => h) (Or.inl ⟨by rfl, ?yqz8⟩) g6 ?_
      case yqz8 =>
        intro w hSw
        go_simp; all_goals (with_reducible rfl)
      simp only [Act.put, List.setIfInBounds_toArray, List.set_cons_zero, List.set_cons_succ]
      refine wpAnyH_take (i := 10) (oi := { dst := some 57, op := Op.pick (Operand.tmp 54) (Operand.tmp 56) (Operand.const (Value.bool false)), type := 4, pos := "law.go:37", after := #[{ on := 7, ground := Ground.data }, { on := 9, ground := Ground.data }], guard := none }) (v := ?vqz9) rfl (by kernel_rfl) (by kernel_rfl) (by kernel_rfl) (fun _ _ _ h => h) (Or.inl ⟨by rfl, ?yqz9⟩) g6 ?_
      case yqz9 =>
        intro w hSw
        go_simp; all_goals (with_reducible rfl)
      simp only [Act.put, List.setIfInBounds_toArray, List.set_cons_zero, List.set_cons_succ]
      refine wpAnyH_take (i := 11) (oi := { dst := some 58, op := Op.move (Operand.tmp 57), type := 4, pos := "law.go:37", after := #[{ on := 10, ground := Ground.data }, { on := 7, ground := Ground.chain }], guard := none }) (v := ?vqz10) rfl (by kernel_rfl) (by kernel_rfl) (by kernel_rfl) (fun _ _ _ h => h) (Or.inl ⟨by rfl, ?yqz10⟩) g6 ?_
      case yqz10 =>
        intro w hSw
        go_simp; all_goals (with_reducible rfl)
      simp only [Act.put, List.setIfInBounds_toArray, List.set_cons_zero, List.set_cons_succ]
      refine wpAnyH_ready (rs := [12]) (by kernel_rfl) (by simp) ?_
      refine (AllReadyH.cons (o := { dst := some 59, op := Op.call { callee := Callee.value (Operand.func 4), args := #[], argTypes := #[] }, type := 4, pos := "law.go:37", after := #[{ on := 11, ground := Ground.chain }, { on := 11, ground := Ground.guard }], guard := some (11, true) }) rfl (fun K hK => ?_) AllReadyH.nil)
      go_simp
      refine (HKN.out _).mono ?_
      rintro e w7 ⟨rfl, hb7⟩
      have g7 := g6.trans (hb7.mono g6.size)
      go_wp2_with fail
      refine hK.out _ _ g7 (fun _ => ?_)
      clear hK K
      refine wpAnyH_take (i := 13) (oi := { dst := some 60, op := Op.pick (Operand.tmp 58) (Operand.tmp 59) (Operand.const (Value.bool false)), type := 4, pos := "law.go:37", after := #[{ on := 11, ground := Ground.data }, { on := 12, ground := Ground.data }], guard := none }) (v := ?vqz11) rfl (by kernel_rfl) (by kernel_rfl) (by kernel_rfl) (fun _ _ _ h => h) (Or.inl ⟨by rfl, ?yqz11⟩) g7 ?_
      case yqz11 =>
        intro w hSw
        go_simp; all_goals (with_reducible rfl)
      simp only [Act.put, List.setIfInBounds_toArray, List.set_cons_zero, List.set_cons_succ]
      refine wpAnyH_take (i := 14) (oi := { dst := some 4, op := Op.assign (Operand.tmp 60), type := 4, pos := "law.go:37", after := #[{ on := 13, ground := Ground.data }, { on := 12, ground := Ground.chain }, { on := 0, ground := Ground.phase }, { on := 1, ground := Ground.phase }, { on := 2, ground := Ground.phase }, { on := 3, ground := Ground.phase }, { on := 4, ground := Ground.phase }, { on := 5, ground := Ground.phase }, { on := 6, ground := Ground.phase }, { on := 7, ground := Ground.phase }, { on := 8, ground := Ground.phase }, { on := 9, ground := Ground.phase }, { on := 10, ground := Ground.phase }, { on := 11, ground := Ground.phase }, { on := 12, ground := Ground.phase }, { on := 13, ground := Ground.phase }], guard := none }) (v := ?vqz12) rfl (by kernel_rfl) (by kernel_rfl) (by kernel_rfl) (fun _ _ _ h => h) (Or.inl ⟨by rfl, ?yqz12⟩) g7 ?_
      case yqz12 =>
        intro w hSw
        go_simp; all_goals (with_reducible rfl)
      simp only [Act.put, List.setIfInBounds_toArray, List.set_cons_zero, List.set_cons_succ]
      refine wpAnyH_done (by kernel_rfl) ?_ _
      go_wp2_with fail
      go_ret
      exact ⟨rfl, HB.out.trans ((HBW5.out.trans (g7.mono HBW5.out.size)).mono HB.out.size)⟩
end Go.Proofs.YtklkboplkobhgaaGreat
