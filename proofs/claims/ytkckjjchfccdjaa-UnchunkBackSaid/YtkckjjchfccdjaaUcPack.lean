/- Chunks read back: a packed chunk. -/
import Derived.Test.YtkckjjchfccdjaaMg1
import Derived.Test.YtkckjjchfccdjaaMg30
namespace Go.Proofs.Ytkckjjchfccdjaa
set_option maxRecDepth 100000
open Go.RowKit

theorem low_bytes {base : Nat} {w0 w1 w2 : World} (h1 : Below base w0 w1) (h2 : Below base w0 w2) (hs : base ≤ w0.heap.size) {A : Option Addr} {l : List UInt8} (hB : Bytes w1 A l) (hA : ∀ a, A = some a → a.block < base) : Bytes w2 A l := by
  rcases hB with h | ⟨b, off, rfl, hb, hc⟩
  · exact .inl h
  · have hlt : b < base := hA _ rfl
    refine .inr ⟨b, off, rfl, by have := h2.size; omega, fun j hj => ?_⟩
    rw [h2.cell (p := ⟨b, off + j, none⟩) hlt, ← h1.cell (p := ⟨b, off + j, none⟩) hlt]
    exact hc j hj
theorem Uk.below {k : UkP} {w : World} {pos : Nat} {s : CkS} (h : Uk k w pos s) : Below k.base k.w0 w := by
  obtain ⟨cv, h1, _⟩ := h
  exact h1.below
theorem CkDone.ret {k : UkP} {x : CkR} {e : Ending} {w' : World} (h : CkDone k x e w') : ∃ n : Int, e = .returned (.int .i64 n) ∧ CkDone k x (.returned (.int .i64 n)) w' := by
  cases x with
  | bad n => obtain ⟨rfl, h⟩ := h; exact ⟨_, rfl, rfl, h⟩
  | go p s => obtain ⟨rfl, h⟩ := h; exact ⟨_, rfl, rfl, h⟩
theorem next_short_uk {k : UkP} {w : World} {pos : Nat} {s : CkS} (h : Uk k w pos s) (n : Nat) (hn : n ≤ 1000000) (hl : k.B.length < pos + n) : Calls Try.prog 10 #[.int .i64 (n : Nat), PF k.bb, PF k.ab] w (NextShort w) := by
  obtain ⟨cv, h1, _⟩ := h
  exact next_short h1 n hn hl
theorem next_good_uk {k : UkP} {w : World} {pos : Nat} {s : CkS} (h : Uk k w pos s) (n : Nat) (hn : n ≤ 1000000) (hl : pos + n ≤ k.B.length) : Calls Try.prog 10 #[.int .i64 (n : Nat), PF k.bb, PF k.ab] w (fun e w' => ∃ AP cP, e = .returned (.tuple #[.slice AP n cP, .int .i64 0]) ∧ (n ≤ cP ∧ cP ≤ 9223372036854775807) ∧ (Bytes w' AP ((k.B.drop pos).take n) ∧ ∀ a, AP = some a → a.block < k.base) ∧ Uk k w' (pos + n) s) := by
  obtain ⟨cv, h1, h2⟩ := h
  refine (next_good h1 n hn hl).mono ?_
  rintro e w' ⟨AP, cP, rfl, h3, h4, h5, h6⟩
  exact ⟨AP, cP, rfl, h3, h4, _, h5, h6 _ _ h2⟩
set_option maxHeartbeats 8000000 in
theorem packed_any {k : UkP} {w : World} {pos : Nat} {s : CkS} (h : Uk k w pos s) (c : Nat) (hc1 : 128 ≤ c) (hc2 : c < 256) (hcl : s.clear = true) (hca : ¬ (c < 192 ∧ s.asked = true)) (ho : s.out.length ≤ 400000000) (hd1 : 1 ≤ k.dict) (hd2 : k.dict ≤ 9223372036854775807) :
    Calls Try.prog 21 #[PF k.R, .int .u8 (c : Nat), NextV k] w (CkDone k (unpackC k.B k.dict c pos s)) := by
  obtain ⟨cv, hU, hC⟩ := h
  have HU := Lib.hid hU
  have HC := Lib.hid hC
  have HO := Lib.hid ho
  have HD := Lib.hid (And.intro hd1 hd2)
  have HCL := Lib.hid hcl
  have hci : (c : Int) < 256 := by omega
  have hci0 : (128 : Int) ≤ (c : Int) := by omega
  by_cases h1 : k.B.length < pos + 4
  · have HN := Lib.hid (next_short HU.out 4 (by decide) h1)
    have HR := Lib.hid (show unpackC k.B k.dict c pos s = .bad 2 by unfold unpackC; exact if_pos h1)
    clear hU hC ho hd1 hd2 hcl hca h1
    go_enter Try.func21, Try.ntmps21
    go_wp2_with fail
    refine HN.out.mono ?_
    rintro e w1 ⟨rfl, rfl⟩
    go_wp2_with fail
    go_ret
    rw [HR.out]
    exact ⟨rfl, HU.out.below⟩
  · have HN := Lib.hid (next_good HU.out 4 (by decide) (by omega))
    have HL4 := Lib.hid (show pos + 4 ≤ k.B.length by omega)
    have hunp : unpackC k.B k.dict c pos s = ((unprops c k.B (pos + 4) s).then (unnew c)).then (unbytes k.B (ckTwo k.B (pos + 2) + 1) (65536 * (c % 32) + ckTwo k.B pos + 1) k.dict) := by unfold unpackC; exact if_neg h1
    by_cases h192 : c < 192
    · have hpr : unprops c k.B (pos + 4) s = .go (pos + 4) s := by unfold unprops; exact if_pos h192
      have has : s.asked = false := by
        cases hq : s.asked with
        | false => rfl
        | true => exact absurd ⟨h192, hq⟩ hca
      have HAS := Lib.hid has
      have g192 : decide ((192 : Int) ≤ (c : Int)) = false := decide_eq_false (by omega)
      by_cases h160 : c < 160
      · have HR := Lib.hid (hunp.trans (show _ = unbytes k.B (ckTwo k.B (pos + 2) + 1) (65536 * (c % 32) + ckTwo k.B pos + 1) k.dict (pos + 4) s by rw [hpr, show (CkR.go (pos + 4) s).then (unnew c) = unnew c (pos + 4) s from rfl, show unnew c (pos + 4) s = .go (pos + 4) s by unfold unnew; exact if_pos h160]; rfl))
        have g160 : decide ((160 : Int) ≤ (c : Int)) = false := decide_eq_false (by omega)
        clear hU hC ho hd1 hd2 hcl hca h1 hunp hpr has h192 h160 hc1 hc2
        go_enter Try.func21, Try.ntmps21
        go_wp2_with fail
        refine HN.out.mono ?_
        rintro e w1 ⟨A1, c1, rfl, hc1, hB1, hU1, hC1⟩
        have HB1 := Lib.hid hB1
        have HU1 := Lib.hid (And.intro hU1 hC1)
        have hc1i : (4 : Int) ≤ (c1 : Int) := by omega
        have hc12 : ¬ c1 = 2 := by omega
        have HC4 := Lib.hid hc1
        clear hB1 hU1 hC1 hc1
        have HT : Hid (Uk k w1 (pos + 4) s ∧ s.clear = true ∧ s.asked = false ∧ s.out.length ≤ 400000000) := Lib.hid ⟨⟨_, HU1.out.1, HU1.out.2 _ _ HC.out⟩, HCL.out, HAS.out, HO.out⟩
        obtain ⟨wt, hwt⟩ : ∃ wt, w1 = wt := ⟨_, rfl⟩
        subst hwt
        have HBT := Lib.hid (low_bytes HU1.out.1.below HT.out.1.below HU1.out.1.bsz HB1.out.1 HB1.out.2)
        have HTW := Lib.hid (uctwo_at (k := k) (p := pos) (n := 4) (i := 2) (c := c1 - 2) (A := A1.map (·.add 2)) (w := w1) (by have h := HBT.out.cutFrom (k := 2) (c := c1) (by have := HL4.out; simp; omega) (by have := HC4.out; have := HL4.out; simp; omega); rw [if_neg hc12] at h; exact h) (by have := HL4.out; omega) (by decide))
        obtain ⟨t, ht⟩ : ∃ t, ckTwo k.B (pos + 2) = t := ⟨_, rfl⟩
        rw [ht] at HTW HR
        have htl : t < 65536 := by rw [← ht]; exact ckTwo_lt _ _
        obtain ⟨n, hn⟩ : ∃ n, t + 1 = n := ⟨_, rfl⟩
        rw [hn] at HR
        have hti : (t : Int) + 1 = (n : Int) := by omega
        have hni : (n : Int) ≤ 65536 := by omega
        have HN65 := Lib.hid (show n ≤ 65536 by omega)
        clear ht htl hn
        go_wp2_with fail
        refine HTW.out.mono ?_
        rintro e w5 ⟨rfl, hb5⟩
        have HT5 := Lib.hid (HT.out.1.of_below hb5)
        clear hb5
        by_cases h3 : k.B.length < pos + 4 + n
        · have HN2 := Lib.hid (next_short_uk HT5.out n (by have := HN65.out; omega) h3)
          have HRF := Lib.hid (HR.out.trans (show unbytes k.B n _ k.dict (pos + 4) s = .bad 2 by unfold unbytes; exact if_pos h3))
          clear h3
          go_wp2_with fail
          refine HN2.out.mono ?_
          rintro e w6 ⟨rfl, rfl⟩
          go_wp2_with fail
          go_ret
          rw [HRF.out]
          exact ⟨rfl, HT5.out.below⟩
        · have HN2 := Lib.hid (next_good_uk HT5.out n (by have := HN65.out; omega) (by omega))
          have HRF := Lib.hid (HR.out.trans (show unbytes k.B n _ k.dict (pos + 4) s = undecode ((k.B.drop (pos + 4)).take n) _ k.dict (pos + 4 + n) s by unfold unbytes; exact if_neg h3))
          have H3 := Lib.hid h3
          clear h3
          go_wp2_with fail
          refine HN2.out.mono ?_
          rintro e w6 ⟨A6, c6, rfl, hc6, hB6, hU6⟩
          have HTW6 := Lib.hid (uctwo_at (k := k) (p := pos) (n := 4) (i := 0) (c := c1) (A := A1) (w := w6) (low_bytes HU1.out.1.below hU6.below HU1.out.1.bsz HB1.out.1 HB1.out.2) (by have := HL4.out; omega) (by decide))
          have HU6 := Lib.hid (And.intro hU6 (And.intro hB6 hc6))
          obtain ⟨u, hu⟩ : ∃ u, ckTwo k.B (pos + 0) = u := ⟨_, rfl⟩
          rw [hu] at HTW6
          rw [Nat.add_zero] at hu
          rw [hu] at HRF
          have hul : u < 65536 := by rw [← hu]; exact ckTwo_lt _ _
          obtain ⟨z, hz⟩ : ∃ z, 65536 * (c % 32) + u + 1 = z := ⟨_, rfl⟩
          rw [hz] at HRF
          have hz1 : ((c : Int) % 32) * 65536 + (u : Int) + 1 = (z : Int) := by omega
          have hz2 : wrap64 (((c : Int) % 32) * 65536) = ((c : Int) % 32) * 65536 := by unfold wrap64; omega
          have hz3 : IntKind.u8.wrap ((c : Int).tmod 32) = (c : Int) % 32 := by rw [Int.tmod_eq_emod_of_nonneg (by omega), IntKind.wrap_u8]; omega
          have hzb : z ≤ 4000000 := by omega
          have hui : (u : Int) < 65536 := by omega
          have hzi : (z : Int) ≤ 4000000 := by omega
          have HZ := Lib.hid hzb
          clear hU6 hB6 hc6 hu hul hz hzb
          go_wp2_with fail
          refine HTW6.out.mono ?_
          rintro e w7 ⟨rfl, hb7⟩
          have HU7 := Lib.hid (HU6.out.1.of_below hb7)
          have HB7 := Lib.hid (HU6.out.2.1.1.below hb7)
          clear hb7
          have hl7 : ((k.B.drop (pos + 4)).take n).length = n := by have := H3.out; simp; omega
          have hdec := decode_any (pos := pos + 4 + n) (s := s) HU7.out HT.out.2.1 HT.out.2.2.1 HT.out.2.2.2 A6 ((k.B.drop (pos + 4)).take n) c6 HB7.out (by have := HN65.out; omega) z HZ.out HD.out.1 HD.out.2
          rw [hl7] at hdec
          have HDEC := Lib.hid hdec
          clear hdec hl7
          go_wp2_with fail
          refine HDEC.out.mono ?_
          intro e w8 hd8
          obtain ⟨m, rfl, hd8⟩ := hd8.ret
          have HD8 := Lib.hid hd8
          clear hd8
          go_wp2_with fail
          go_ret
          rw [HRF.out]
          exact HD8.out
      · have hperm : permB (s.lc : Nat) (s.lp : Nat) (s.pb : Nat) = true := by
          obtain ⟨_, _, _, _, _, hp, _⟩ := hC hcl has
          exact hp
        have HR := Lib.hid (hunp.trans (show _ = unbytes k.B (ckTwo k.B (pos + 2) + 1) (65536 * (c % 32) + ckTwo k.B pos + 1) k.dict (pos + 4) (ckFresh s) by rw [hpr, show (CkR.go (pos + 4) s).then (unnew c) = unnew c (pos + 4) s from rfl, show unnew c (pos + 4) s = .go (pos + 4) (ckFresh s) by unfold unnew; rw [if_neg h160, if_neg (by rw [hperm]; decide)]]; rfl))
        have g160 : decide ((160 : Int) ≤ (c : Int)) = true := decide_eq_true (by omega)
        obtain ⟨LC, hLC⟩ : ∃ n, s.lc = n := ⟨_, rfl⟩
        obtain ⟨LP, hLP⟩ : ∃ n, s.lp = n := ⟨_, rfl⟩
        obtain ⟨PB, hPB⟩ : ∃ n, s.pb = n := ⟨_, rfl⟩
        have hp' := of_decide_eq_true hperm
        have HPERM := Lib.hid (And.intro (show LC ≤ 4 ∧ LP ≤ 4 ∧ PB ≤ 4 ∧ LC + LP ≤ 4 by omega) hperm)
        have HLS := Lib.hid (And.intro hLC (And.intro hLP hPB))
        clear hU hC ho hd1 hd2 hcl hca h1 hunp hpr has h192 h160 hc1 hc2 hperm hp' hLC hLP hPB
        go_enter Try.func21, Try.ntmps21
        go_wp2_with fail
        refine HN.out.mono ?_
        rintro e w1 ⟨A1, c1, rfl, hc1, hB1, hU1, hC1⟩
        have HB1 := Lib.hid hB1
        have HU1 := Lib.hid (And.intro hU1 hC1)
        have hc1i : (4 : Int) ≤ (c1 : Int) := by omega
        have hc12 : ¬ c1 = 2 := by omega
        have HC4 := Lib.hid hc1
        clear hB1 hU1 hC1 hc1
        have HUB := Lib.hid HU1.out.1
        obtain ⟨v, ⟨_, _, _, _, _, r5, r6, r7, _⟩, _, _⟩ := HUB.out.cells
        rw [HLS.out.1] at r5
        rw [HLS.out.2.1] at r6
        rw [HLS.out.2.2] at r7
        obtain ⟨v0, hrow, _⟩ := HUB.out.row
        have hRl : k.R < w1.heap.size := (Array.getElem?_eq_some_iff.1 hrow).1
        have HNEW := Lib.hid (fun W => mnew_good LC LP PB W (by have := HPERM.out.1; omega) (by have := HPERM.out.1; omega) (by have := HPERM.out.1; omega) (by have := HPERM.out.1; omega))
        have hS0 : w1.drew.cell? ⟨k.R, 5, none⟩ = some (.int .i64 (LC : Nat)) ∧ w1.drew.cell? ⟨k.R, 6, none⟩ = some (.int .i64 (LP : Nat)) ∧ w1.drew.cell? ⟨k.R, 7, none⟩ = some (.int .i64 (PB : Nat)) := ⟨r5, r6, r7⟩
        clear hrow
        go_upto_region 9 with fail
        refine wp_region_held_drew (S := fun W => W.cell? ⟨k.R, 5, none⟩ = some (.int .i64 (LC : Nat)) ∧ W.cell? ⟨k.R, 6, none⟩ = some (.int .i64 (LP : Nat)) ∧ W.cell? ⟨k.R, 7, none⟩ = some (.int .i64 (PB : Nat))) (by kernel_rfl) hS0 (fun hS => ?_)
        refine tk 0 (v := ?vuk1) ?yuk1 hS ?_
        case yuk1 =>
          intro w hSw
          go_simp; all_goals (with_reducible rfl)
        simp only [Act.put, List.setIfInBounds_toArray, List.set_cons_zero, List.set_cons_succ]
        refine tk 1 (v := ?vuk2) ?yuk2 hS ?_
        case yuk2 =>
          intro w hSw
          go_simp; all_goals (with_reducible rfl)
        simp only [Act.put, List.setIfInBounds_toArray, List.set_cons_zero, List.set_cons_succ]
        refine tk 2 (v := ?vuk3) ?yuk3 hS ?_
        case yuk3 =>
          intro w hSw
          go_simp; all_goals (with_reducible rfl)
        simp only [Act.put, List.setIfInBounds_toArray, List.set_cons_zero, List.set_cons_succ]
        refine tk 3 (v := ?vuk4) ?yuk4 hS ?_
        case yuk4 =>
          intro w hSw
          obtain ⟨q5, q6, q7⟩ := hSw
          go_simp; all_goals (with_reducible rfl)
        simp only [Act.put, List.setIfInBounds_toArray, List.set_cons_zero, List.set_cons_succ]
        refine tk 4 (v := ?vuk5) ?yuk5 hS ?_
        case yuk5 =>
          intro w hSw
          go_simp; all_goals (with_reducible rfl)
        simp only [Act.put, List.setIfInBounds_toArray, List.set_cons_zero, List.set_cons_succ]
        refine tk 5 (v := ?vuk6) ?yuk6 hS ?_
        case yuk6 =>
          intro w hSw
          go_simp; all_goals (with_reducible rfl)
        simp only [Act.put, List.setIfInBounds_toArray, List.set_cons_zero, List.set_cons_succ]
        refine tk 6 (v := ?vuk7) ?yuk7 hS ?_
        case yuk7 =>
          intro w hSw
          go_simp; all_goals (with_reducible rfl)
        simp only [Act.put, List.setIfInBounds_toArray, List.set_cons_zero, List.set_cons_succ]
        refine tk 7 (v := ?vuk8) ?yuk8 hS ?_
        case yuk8 =>
          intro w hSw
          obtain ⟨q5, q6, q7⟩ := hSw
          go_simp; all_goals (with_reducible rfl)
        simp only [Act.put, List.setIfInBounds_toArray, List.set_cons_zero, List.set_cons_succ]
        refine tk 8 (v := ?vuk9) ?yuk9 hS ?_
        case yuk9 =>
          intro w hSw
          go_simp; all_goals (with_reducible rfl)
        simp only [Act.put, List.setIfInBounds_toArray, List.set_cons_zero, List.set_cons_succ]
        refine tk 9 (v := ?vuk10) ?yuk10 hS ?_
        case yuk10 =>
          intro w hSw
          go_simp; all_goals (with_reducible rfl)
        simp only [Act.put, List.setIfInBounds_toArray, List.set_cons_zero, List.set_cons_succ]
        refine tk 10 (v := ?vuk11) ?yuk11 hS ?_
        case yuk11 =>
          intro w hSw
          go_simp; all_goals (with_reducible rfl)
        simp only [Act.put, List.setIfInBounds_toArray, List.set_cons_zero, List.set_cons_succ]
        refine tk 11 (v := ?vuk12) ?yuk12 hS ?_
        case yuk12 =>
          intro w hSw
          obtain ⟨q5, q6, q7⟩ := hSw
          go_simp; all_goals (with_reducible rfl)
        simp only [Act.put, List.setIfInBounds_toArray, List.set_cons_zero, List.set_cons_succ]
        refine wpAnyH_ready (rs := [12]) (by kernel_rfl) (by simp) ?_
        refine (AllReadyH.cons (o := { dst := some 44, op := Op.call { callee := Callee.value (Operand.func 28), args := #[Operand.tmp 35, Operand.tmp 39, Operand.tmp 43], argTypes := #[3, 3, 3] }, type := 74, pos := "unchunk.go:106", after := #[{ on := 3, ground := Ground.data }, { on := 7, ground := Ground.data }, { on := 11, ground := Ground.data }], guard := none }) rfl (fun K hK => ?_) AllReadyH.nil)
        go_simp
        refine (HNEW.out _).mono ?_
        rintro e x12 ⟨C, Lb, rfl, hM12, hb12, hC12, hL12⟩
        have g12 : x12.cell? ⟨k.R, 5, none⟩ = some (.int .i64 (LC : Nat)) ∧ x12.cell? ⟨k.R, 6, none⟩ = some (.int .i64 (LP : Nat)) ∧ x12.cell? ⟨k.R, 7, none⟩ = some (.int .i64 (PB : Nat)) := ⟨(hb12.cell (p := ⟨k.R, 5, none⟩) hRl).trans r5, (hb12.cell (p := ⟨k.R, 6, none⟩) hRl).trans r6, (hb12.cell (p := ⟨k.R, 7, none⟩) hRl).trans r7⟩
        have H12 := Lib.hid (And.intro hM12 (And.intro hb12 (And.intro hC12 hL12)))
        clear hM12 hb12 hC12 hL12
        go_wp2_with fail
        refine hK.out _ _ g12 (fun _ => ?_)
        clear hK K
        refine tk 13 (v := ?vuk13) ?yuk13 g12 ?_
        case yuk13 =>
          intro w hSw
          go_simp; all_goals (with_reducible rfl)
        simp only [Act.put, List.setIfInBounds_toArray, List.set_cons_zero, List.set_cons_succ]
        refine tk 14 (v := ?vuk14) ?yuk14 g12 ?_
        case yuk14 =>
          intro w hSw
          go_simp; all_goals (with_reducible rfl)
        simp only [Act.put, List.setIfInBounds_toArray, List.set_cons_zero, List.set_cons_succ]
        refine tk 15 (v := ?vuk15) ?yuk15 g12 ?_
        case yuk15 =>
          intro w hSw
          go_simp; all_goals (with_reducible rfl)
        simp only [Act.put, List.setIfInBounds_toArray, List.set_cons_zero, List.set_cons_succ]
        refine tk 16 (v := ?vuk16) ?yuk16 g12 ?_
        case yuk16 =>
          intro w hSw
          go_simp; all_goals (with_reducible rfl)
        simp only [Act.put, List.setIfInBounds_toArray, List.set_cons_zero, List.set_cons_succ]
        refine tk 17 (v := ?vuk17) ?yuk17 g12 ?_
        case yuk17 =>
          intro w hSw
          go_simp; all_goals (with_reducible rfl)
        simp only [Act.put, List.setIfInBounds_toArray, List.set_cons_zero, List.set_cons_succ]
        refine wpAnyH_done (by kernel_rfl) ?_ _
        clear hS hS0 hRl HNEW r5 r6 r7
        have hub12 := HUB.out.of_below ((Below.refl _ _).drew.trans (show Below w1.heap.size w1.drew x12 from H12.out.2.1))
        obtain ⟨_, ⟨_, _, _, _, _, _, _, _, r8⟩, _, hfr⟩ := hub12.cells
        have f8 := hfr 8
        have hput := hub12.put 8 (PF C) (s' := ckFresh s) (cv' := PF C) (fun _ => rfl) rfl hub12.nums.2.2.2.2
        have hcod : CodU k.base (x12.setCell ⟨k.R, 8, none⟩ (PF C)) (PF C) (ckFresh s) := by
          obtain ⟨v0, hrow, _⟩ := hub12.row
          have hb := Nat.le_trans HUB.out.bsz HUB.out.below.size
          have h1 := H12.out.2.2.1
          have h2 := H12.out.2.2.2
          have hc0 : CodU k.base x12 (PF C) (ckFresh s) := fun _ _ => ⟨C, Lb, rfl, ⟨Nat.le_trans hb h1, Nat.le_trans hb h2⟩, by show ModAt _ C Lb s.lc s.lp s.pb 0 (1, 1, 1, 1) (fun _ => 1024); rw [HLS.out.1, HLS.out.2.1, HLS.out.2.2]; exact H12.out.1, HPERM.out.2, (by decide : (0 : Nat) < 12), rGood1⟩
          exact hc0.set (p := ⟨k.R, 8, none⟩) hrow (by decide) (by decide) _
        obtain ⟨wt, hwt⟩ : ∃ W, x12.setCell ⟨k.R, 8, none⟩ (PF C) = W := ⟨_, rfl⟩
        rw [hwt] at hput hcod
        have HWT := Lib.hid hwt
        have HT : Hid (Uk k wt (pos + 4) (ckFresh s) ∧ (ckFresh s).clear = true ∧ (ckFresh s).asked = false ∧ (ckFresh s).out.length ≤ 400000000) := Lib.hid ⟨⟨_, hput, hcod⟩, HCL.out, HAS.out, HO.out⟩
        clear hub12 hfr hput hcod hwt HUB H12
        go_upto_region 13 with fail
        rw [HWT.out]
        clear HWT f8 r8
        have HBT := Lib.hid (low_bytes HU1.out.1.below HT.out.1.below HU1.out.1.bsz HB1.out.1 HB1.out.2)
        have HTW := Lib.hid (uctwo_at (k := k) (p := pos) (n := 4) (i := 2) (c := c1 - 2) (A := A1.map (·.add 2)) (w := wt) (by have h := HBT.out.cutFrom (k := 2) (c := c1) (by have := HL4.out; simp; omega) (by have := HC4.out; have := HL4.out; simp; omega); rw [if_neg hc12] at h; exact h) (by have := HL4.out; omega) (by decide))
        obtain ⟨t, ht⟩ : ∃ t, ckTwo k.B (pos + 2) = t := ⟨_, rfl⟩
        rw [ht] at HTW HR
        have htl : t < 65536 := by rw [← ht]; exact ckTwo_lt _ _
        obtain ⟨n, hn⟩ : ∃ n, t + 1 = n := ⟨_, rfl⟩
        rw [hn] at HR
        have hti : (t : Int) + 1 = (n : Int) := by omega
        have hni : (n : Int) ≤ 65536 := by omega
        have HN65 := Lib.hid (show n ≤ 65536 by omega)
        clear ht htl hn
        go_wp2_with fail
        refine HTW.out.mono ?_
        rintro e w5 ⟨rfl, hb5⟩
        have HT5 := Lib.hid (HT.out.1.of_below hb5)
        clear hb5
        by_cases h3 : k.B.length < pos + 4 + n
        · have HN2 := Lib.hid (next_short_uk HT5.out n (by have := HN65.out; omega) h3)
          have HRF := Lib.hid (HR.out.trans (show unbytes k.B n _ k.dict (pos + 4) (ckFresh s) = .bad 2 by unfold unbytes; exact if_pos h3))
          clear h3
          go_wp2_with fail
          refine HN2.out.mono ?_
          rintro e w6 ⟨rfl, rfl⟩
          go_wp2_with fail
          go_ret
          rw [HRF.out]
          exact ⟨rfl, HT5.out.below⟩
        · have HN2 := Lib.hid (next_good_uk HT5.out n (by have := HN65.out; omega) (by omega))
          have HRF := Lib.hid (HR.out.trans (show unbytes k.B n _ k.dict (pos + 4) (ckFresh s) = undecode ((k.B.drop (pos + 4)).take n) _ k.dict (pos + 4 + n) (ckFresh s) by unfold unbytes; exact if_neg h3))
          have H3 := Lib.hid h3
          clear h3
          go_wp2_with fail
          refine HN2.out.mono ?_
          rintro e w6 ⟨A6, c6, rfl, hc6, hB6, hU6⟩
          have HTW6 := Lib.hid (uctwo_at (k := k) (p := pos) (n := 4) (i := 0) (c := c1) (A := A1) (w := w6) (low_bytes HU1.out.1.below hU6.below HU1.out.1.bsz HB1.out.1 HB1.out.2) (by have := HL4.out; omega) (by decide))
          have HU6 := Lib.hid (And.intro hU6 (And.intro hB6 hc6))
          obtain ⟨u, hu⟩ : ∃ u, ckTwo k.B (pos + 0) = u := ⟨_, rfl⟩
          rw [hu] at HTW6
          rw [Nat.add_zero] at hu
          rw [hu] at HRF
          have hul : u < 65536 := by rw [← hu]; exact ckTwo_lt _ _
          obtain ⟨z, hz⟩ : ∃ z, 65536 * (c % 32) + u + 1 = z := ⟨_, rfl⟩
          rw [hz] at HRF
          have hz1 : ((c : Int) % 32) * 65536 + (u : Int) + 1 = (z : Int) := by omega
          have hz2 : wrap64 (((c : Int) % 32) * 65536) = ((c : Int) % 32) * 65536 := by unfold wrap64; omega
          have hz3 : IntKind.u8.wrap ((c : Int).tmod 32) = (c : Int) % 32 := by rw [Int.tmod_eq_emod_of_nonneg (by omega), IntKind.wrap_u8]; omega
          have hzb : z ≤ 4000000 := by omega
          have hui : (u : Int) < 65536 := by omega
          have hzi : (z : Int) ≤ 4000000 := by omega
          have HZ := Lib.hid hzb
          clear hU6 hB6 hc6 hu hul hz hzb
          go_wp2_with fail
          refine HTW6.out.mono ?_
          rintro e w7 ⟨rfl, hb7⟩
          have HU7 := Lib.hid (HU6.out.1.of_below hb7)
          have HB7 := Lib.hid (HU6.out.2.1.1.below hb7)
          clear hb7
          have hl7 : ((k.B.drop (pos + 4)).take n).length = n := by have := H3.out; simp; omega
          have hdec := decode_any (pos := pos + 4 + n) (s := (ckFresh s)) HU7.out HT.out.2.1 HT.out.2.2.1 HT.out.2.2.2 A6 ((k.B.drop (pos + 4)).take n) c6 HB7.out (by have := HN65.out; omega) z HZ.out HD.out.1 HD.out.2
          rw [hl7] at hdec
          have HDEC := Lib.hid hdec
          clear hdec hl7
          go_wp2_with fail
          refine HDEC.out.mono ?_
          intro e w8 hd8
          obtain ⟨m, rfl, hd8⟩ := hd8.ret
          have HD8 := Lib.hid hd8
          clear hd8
          go_wp2_with fail
          go_ret
          rw [HRF.out]
          exact HD8.out
    · have g192 : decide ((192 : Int) ≤ (c : Int)) = true := decide_eq_true (by omega)
      have g160 : decide ((160 : Int) ≤ (c : Int)) = true := decide_eq_true (by omega)
      have h160 : ¬ c < 160 := by omega
      by_cases h5 : k.B.length < pos + 4 + 1
      · have HR := Lib.hid (hunp.trans (show _ = CkR.bad 2 by rw [show unprops c k.B (pos + 4) s = .bad 2 by unfold unprops; rw [if_neg h192, if_pos h5]]; rfl))
        have HPO := Lib.hid (show propsOf k.B (pos + 4) s = .bad 2 by unfold propsOf; exact if_pos h5)
        clear hU hC ho hd1 hd2 hcl hca h1 hunp h192 h160 hc1 hc2 h5
        go_enter Try.func21, Try.ntmps21
        go_wp2_with fail
        refine HN.out.mono ?_
        rintro e w1 ⟨A1, c1, rfl, hc1, hB1, hU1, hC1⟩
        have HB1 := Lib.hid hB1
        have HU1 := Lib.hid (And.intro hU1 hC1)
        have hc1i : (4 : Int) ≤ (c1 : Int) := by omega
        have hc12 : ¬ c1 = 2 := by omega
        have HC4 := Lib.hid hc1
        clear hB1 hU1 hC1 hc1
        have HPR := Lib.hid (ucprops_any HU1.out.1)
        rw [HPO.out] at HPR
        go_wp2_with fail
        refine HPR.out.mono ?_
        rintro e w2 ⟨rfl, hb2⟩
        go_wp2_with fail
        go_ret
        rw [HR.out]
        exact ⟨rfl, hb2⟩
      · obtain ⟨s1, hs1⟩ : ∃ s1 : CkS, { s with lc := (k.B.getD (pos + 4) 0).toNat % 9, lp := (k.B.getD (pos + 4) 0).toNat / 9 % 5, pb := (k.B.getD (pos + 4) 0).toNat / 45, asked := false } = s1 := ⟨_, rfl⟩
        have hpr : unprops c k.B (pos + 4) s = .go (pos + 4 + 1) s1 := by rw [← hs1]; unfold unprops; rw [if_neg h192, if_neg h5]
        have HPO := Lib.hid (show propsOf k.B (pos + 4) s = .go (pos + 4 + 1) s1 by rw [← hs1]; unfold propsOf; exact if_neg h5)
        have HS1 := Lib.hid (show s1.clear = s.clear ∧ s1.asked = false ∧ s1.out = s.out by rw [← hs1]; exact ⟨rfl, rfl, rfl⟩)
        have HCL1 := Lib.hid (HS1.out.1.trans hcl)
        obtain ⟨LC, hLC⟩ : ∃ n, s1.lc = n := ⟨_, rfl⟩
        obtain ⟨LP, hLP⟩ : ∃ n, s1.lp = n := ⟨_, rfl⟩
        obtain ⟨PB, hPB⟩ : ∃ n, s1.pb = n := ⟨_, rfl⟩
        have HLS := Lib.hid (And.intro hLC (And.intro hLP hPB))
        cases hperm : permB (s1.lc : Nat) (s1.lp : Nat) (s1.pb : Nat) with
        | false =>
          have HR := Lib.hid (hunp.trans (show _ = CkR.bad 6 by rw [hpr, show (CkR.go (pos + 4 + 1) s1).then (unnew c) = unnew c (pos + 4 + 1) s1 from rfl, show unnew c (pos + 4 + 1) s1 = .bad 6 by unfold unnew; rw [if_neg h160, if_pos hperm]]; rfl))
          rw [hLC, hLP, hPB] at hperm
          have HPERM := Lib.hid hperm
          clear hU hC ho hd1 hd2 hcl hca h1 hunp h192 h160 hc1 hc2 h5 hs1 hpr hLC hLP hPB hperm
          go_enter Try.func21, Try.ntmps21
          go_wp2_with fail
          refine HN.out.mono ?_
          rintro e w1 ⟨A1, c1, rfl, hc1, hB1, hU1, hC1⟩
          have HB1 := Lib.hid hB1
          have HU1 := Lib.hid (And.intro hU1 hC1)
          have hc1i : (4 : Int) ≤ (c1 : Int) := by omega
          have hc12 : ¬ c1 = 2 := by omega
          have HC4 := Lib.hid hc1
          clear hB1 hU1 hC1 hc1
          have HPR := Lib.hid (ucprops_any HU1.out.1)
          rw [HPO.out] at HPR
          go_wp2_with fail
          refine HPR.out.mono ?_
          rintro e w2 ⟨rfl, hub2⟩
          have HUB := Lib.hid hub2
          clear hub2
          obtain ⟨v, ⟨_, _, _, _, _, r5, r6, r7, _⟩, _, _⟩ := HUB.out.cells
          rw [HLS.out.1] at r5
          rw [HLS.out.2.1] at r6
          rw [HLS.out.2.2] at r7
          have HNEW := Lib.hid (fun W => mnew_bad (LC : Nat) (LP : Nat) (PB : Nat) W HPERM.out)
          have hS0 : w2.drew.cell? ⟨k.R, 5, none⟩ = some (.int .i64 (LC : Nat)) ∧ w2.drew.cell? ⟨k.R, 6, none⟩ = some (.int .i64 (LP : Nat)) ∧ w2.drew.cell? ⟨k.R, 7, none⟩ = some (.int .i64 (PB : Nat)) := ⟨r5, r6, r7⟩
          go_upto_region 9 with fail
          refine wp_region_held_drew (S := fun W => W.cell? ⟨k.R, 5, none⟩ = some (.int .i64 (LC : Nat)) ∧ W.cell? ⟨k.R, 6, none⟩ = some (.int .i64 (LP : Nat)) ∧ W.cell? ⟨k.R, 7, none⟩ = some (.int .i64 (PB : Nat))) (by kernel_rfl) hS0 (fun hS => ?_)
          refine tk 0 (v := ?vub18) ?yub18 hS ?_
          case yub18 =>
            intro w hSw
            go_simp; all_goals (with_reducible rfl)
          simp only [Act.put, List.setIfInBounds_toArray, List.set_cons_zero, List.set_cons_succ]
          refine tk 1 (v := ?vub19) ?yub19 hS ?_
          case yub19 =>
            intro w hSw
            go_simp; all_goals (with_reducible rfl)
          simp only [Act.put, List.setIfInBounds_toArray, List.set_cons_zero, List.set_cons_succ]
          refine tk 2 (v := ?vub20) ?yub20 hS ?_
          case yub20 =>
            intro w hSw
            go_simp; all_goals (with_reducible rfl)
          simp only [Act.put, List.setIfInBounds_toArray, List.set_cons_zero, List.set_cons_succ]
          refine tk 3 (v := ?vub21) ?yub21 hS ?_
          case yub21 =>
            intro w hSw
            obtain ⟨q5, q6, q7⟩ := hSw
            go_simp; all_goals (with_reducible rfl)
          simp only [Act.put, List.setIfInBounds_toArray, List.set_cons_zero, List.set_cons_succ]
          refine tk 4 (v := ?vub22) ?yub22 hS ?_
          case yub22 =>
            intro w hSw
            go_simp; all_goals (with_reducible rfl)
          simp only [Act.put, List.setIfInBounds_toArray, List.set_cons_zero, List.set_cons_succ]
          refine tk 5 (v := ?vub23) ?yub23 hS ?_
          case yub23 =>
            intro w hSw
            go_simp; all_goals (with_reducible rfl)
          simp only [Act.put, List.setIfInBounds_toArray, List.set_cons_zero, List.set_cons_succ]
          refine tk 6 (v := ?vub24) ?yub24 hS ?_
          case yub24 =>
            intro w hSw
            go_simp; all_goals (with_reducible rfl)
          simp only [Act.put, List.setIfInBounds_toArray, List.set_cons_zero, List.set_cons_succ]
          refine tk 7 (v := ?vub25) ?yub25 hS ?_
          case yub25 =>
            intro w hSw
            obtain ⟨q5, q6, q7⟩ := hSw
            go_simp; all_goals (with_reducible rfl)
          simp only [Act.put, List.setIfInBounds_toArray, List.set_cons_zero, List.set_cons_succ]
          refine tk 8 (v := ?vub26) ?yub26 hS ?_
          case yub26 =>
            intro w hSw
            go_simp; all_goals (with_reducible rfl)
          simp only [Act.put, List.setIfInBounds_toArray, List.set_cons_zero, List.set_cons_succ]
          refine tk 9 (v := ?vub27) ?yub27 hS ?_
          case yub27 =>
            intro w hSw
            go_simp; all_goals (with_reducible rfl)
          simp only [Act.put, List.setIfInBounds_toArray, List.set_cons_zero, List.set_cons_succ]
          refine tk 10 (v := ?vub28) ?yub28 hS ?_
          case yub28 =>
            intro w hSw
            go_simp; all_goals (with_reducible rfl)
          simp only [Act.put, List.setIfInBounds_toArray, List.set_cons_zero, List.set_cons_succ]
          refine tk 11 (v := ?vub29) ?yub29 hS ?_
          case yub29 =>
            intro w hSw
            obtain ⟨q5, q6, q7⟩ := hSw
            go_simp; all_goals (with_reducible rfl)
          simp only [Act.put, List.setIfInBounds_toArray, List.set_cons_zero, List.set_cons_succ]
          refine wpAnyH_ready (rs := [12]) (by kernel_rfl) (by simp) ?_
          refine (AllReadyH.cons (o := { dst := some 44, op := Op.call { callee := Callee.value (Operand.func 28), args := #[Operand.tmp 35, Operand.tmp 39, Operand.tmp 43], argTypes := #[3, 3, 3] }, type := 74, pos := "unchunk.go:106", after := #[{ on := 3, ground := Ground.data }, { on := 7, ground := Ground.data }, { on := 11, ground := Ground.data }], guard := none }) rfl (fun K hK => ?_) AllReadyH.nil)
          go_simp
          refine (HNEW.out _).mono ?_
          rintro e x12 ⟨rfl, e12⟩
          subst e12
          have g12 := hS
          go_wp2_with fail
          refine hK.out _ _ g12 (fun _ => ?_)
          clear hK K
          refine tk 13 (v := ?vub30) ?yub30 g12 ?_
          case yub30 =>
            intro w hSw
            go_simp; all_goals (with_reducible rfl)
          simp only [Act.put, List.setIfInBounds_toArray, List.set_cons_zero, List.set_cons_succ]
          refine tk 14 (v := ?vub31) ?yub31 g12 ?_
          case yub31 =>
            intro w hSw
            go_simp; all_goals (with_reducible rfl)
          simp only [Act.put, List.setIfInBounds_toArray, List.set_cons_zero, List.set_cons_succ]
          refine tk 15 (v := ?vub32) ?yub32 g12 ?_
          case yub32 =>
            intro w hSw
            go_simp; all_goals (with_reducible rfl)
          simp only [Act.put, List.setIfInBounds_toArray, List.set_cons_zero, List.set_cons_succ]
          refine tk 16 (v := ?vub33) ?yub33 g12 ?_
          case yub33 =>
            intro w hSw
            go_simp; all_goals (with_reducible rfl)
          simp only [Act.put, List.setIfInBounds_toArray, List.set_cons_zero, List.set_cons_succ]
          refine tk 17 (v := ?vub34) ?yub34 g12 ?_
          case yub34 =>
            intro w hSw
            go_simp; all_goals (with_reducible rfl)
          simp only [Act.put, List.setIfInBounds_toArray, List.set_cons_zero, List.set_cons_succ]
          refine wpAnyH_done (by kernel_rfl) ?_ _
          go_wp2_with fail
          go_ret
          rw [HR.out]
          exact ⟨rfl, (HUB.out.of_below (drew_below _)).below⟩
        | true =>
          have HR := Lib.hid (hunp.trans (show _ = unbytes k.B (ckTwo k.B (pos + 2) + 1) (65536 * (c % 32) + ckTwo k.B pos + 1) k.dict (pos + 4 + 1) (ckFresh s1) by rw [hpr, show (CkR.go (pos + 4 + 1) s1).then (unnew c) = unnew c (pos + 4 + 1) s1 from rfl, show unnew c (pos + 4 + 1) s1 = .go (pos + 4 + 1) (ckFresh s1) by unfold unnew; rw [if_neg h160, if_neg (by rw [hperm]; decide)]]; rfl))
          have hp' := of_decide_eq_true hperm
          have HPERM := Lib.hid (And.intro (show LC ≤ 4 ∧ LP ≤ 4 ∧ PB ≤ 4 ∧ LC + LP ≤ 4 by omega) hperm)
          clear hU hC ho hd1 hd2 hcl hca h1 hunp h192 h160 hc1 hc2 h5 hs1 hpr hLC hLP hPB hperm hp'
          go_enter Try.func21, Try.ntmps21
          go_wp2_with fail
          refine HN.out.mono ?_
          rintro e w1 ⟨A1, c1, rfl, hc1, hB1, hU1, hC1⟩
          have HB1 := Lib.hid hB1
          have HU1 := Lib.hid (And.intro hU1 hC1)
          have hc1i : (4 : Int) ≤ (c1 : Int) := by omega
          have hc12 : ¬ c1 = 2 := by omega
          have HC4 := Lib.hid hc1
          clear hB1 hU1 hC1 hc1
          have HPR := Lib.hid (ucprops_any HU1.out.1)
          rw [HPO.out] at HPR
          go_wp2_with fail
          refine HPR.out.mono ?_
          rintro e w2 ⟨rfl, hub2⟩
          have HUB := Lib.hid hub2
          clear hub2
          obtain ⟨v, ⟨_, _, _, _, _, r5, r6, r7, _⟩, _, _⟩ := HUB.out.cells
          rw [HLS.out.1] at r5
          rw [HLS.out.2.1] at r6
          rw [HLS.out.2.2] at r7
          obtain ⟨v0, hrow, _⟩ := HUB.out.row
          have hRl : k.R < w2.heap.size := (Array.getElem?_eq_some_iff.1 hrow).1
          have HNEW := Lib.hid (fun W => mnew_good LC LP PB W (by have := HPERM.out.1; omega) (by have := HPERM.out.1; omega) (by have := HPERM.out.1; omega) (by have := HPERM.out.1; omega))
          have hS0 : w2.drew.cell? ⟨k.R, 5, none⟩ = some (.int .i64 (LC : Nat)) ∧ w2.drew.cell? ⟨k.R, 6, none⟩ = some (.int .i64 (LP : Nat)) ∧ w2.drew.cell? ⟨k.R, 7, none⟩ = some (.int .i64 (PB : Nat)) := ⟨r5, r6, r7⟩
          clear hrow
          go_upto_region 9 with fail
          refine wp_region_held_drew (S := fun W => W.cell? ⟨k.R, 5, none⟩ = some (.int .i64 (LC : Nat)) ∧ W.cell? ⟨k.R, 6, none⟩ = some (.int .i64 (LP : Nat)) ∧ W.cell? ⟨k.R, 7, none⟩ = some (.int .i64 (PB : Nat))) (by kernel_rfl) hS0 (fun hS => ?_)
          refine tk 0 (v := ?vuk35) ?yuk35 hS ?_
          case yuk35 =>
            intro w hSw
            go_simp; all_goals (with_reducible rfl)
          simp only [Act.put, List.setIfInBounds_toArray, List.set_cons_zero, List.set_cons_succ]
          refine tk 1 (v := ?vuk36) ?yuk36 hS ?_
          case yuk36 =>
            intro w hSw
            go_simp; all_goals (with_reducible rfl)
          simp only [Act.put, List.setIfInBounds_toArray, List.set_cons_zero, List.set_cons_succ]
          refine tk 2 (v := ?vuk37) ?yuk37 hS ?_
          case yuk37 =>
            intro w hSw
            go_simp; all_goals (with_reducible rfl)
          simp only [Act.put, List.setIfInBounds_toArray, List.set_cons_zero, List.set_cons_succ]
          refine tk 3 (v := ?vuk38) ?yuk38 hS ?_
          case yuk38 =>
            intro w hSw
            obtain ⟨q5, q6, q7⟩ := hSw
            go_simp; all_goals (with_reducible rfl)
          simp only [Act.put, List.setIfInBounds_toArray, List.set_cons_zero, List.set_cons_succ]
          refine tk 4 (v := ?vuk39) ?yuk39 hS ?_
          case yuk39 =>
            intro w hSw
            go_simp; all_goals (with_reducible rfl)
          simp only [Act.put, List.setIfInBounds_toArray, List.set_cons_zero, List.set_cons_succ]
          refine tk 5 (v := ?vuk40) ?yuk40 hS ?_
          case yuk40 =>
            intro w hSw
            go_simp; all_goals (with_reducible rfl)
          simp only [Act.put, List.setIfInBounds_toArray, List.set_cons_zero, List.set_cons_succ]
          refine tk 6 (v := ?vuk41) ?yuk41 hS ?_
          case yuk41 =>
            intro w hSw
            go_simp; all_goals (with_reducible rfl)
          simp only [Act.put, List.setIfInBounds_toArray, List.set_cons_zero, List.set_cons_succ]
          refine tk 7 (v := ?vuk42) ?yuk42 hS ?_
          case yuk42 =>
            intro w hSw
            obtain ⟨q5, q6, q7⟩ := hSw
            go_simp; all_goals (with_reducible rfl)
          simp only [Act.put, List.setIfInBounds_toArray, List.set_cons_zero, List.set_cons_succ]
          refine tk 8 (v := ?vuk43) ?yuk43 hS ?_
          case yuk43 =>
            intro w hSw
            go_simp; all_goals (with_reducible rfl)
          simp only [Act.put, List.setIfInBounds_toArray, List.set_cons_zero, List.set_cons_succ]
          refine tk 9 (v := ?vuk44) ?yuk44 hS ?_
          case yuk44 =>
            intro w hSw
            go_simp; all_goals (with_reducible rfl)
          simp only [Act.put, List.setIfInBounds_toArray, List.set_cons_zero, List.set_cons_succ]
          refine tk 10 (v := ?vuk45) ?yuk45 hS ?_
          case yuk45 =>
            intro w hSw
            go_simp; all_goals (with_reducible rfl)
          simp only [Act.put, List.setIfInBounds_toArray, List.set_cons_zero, List.set_cons_succ]
          refine tk 11 (v := ?vuk46) ?yuk46 hS ?_
          case yuk46 =>
            intro w hSw
            obtain ⟨q5, q6, q7⟩ := hSw
            go_simp; all_goals (with_reducible rfl)
          simp only [Act.put, List.setIfInBounds_toArray, List.set_cons_zero, List.set_cons_succ]
          refine wpAnyH_ready (rs := [12]) (by kernel_rfl) (by simp) ?_
          refine (AllReadyH.cons (o := { dst := some 44, op := Op.call { callee := Callee.value (Operand.func 28), args := #[Operand.tmp 35, Operand.tmp 39, Operand.tmp 43], argTypes := #[3, 3, 3] }, type := 74, pos := "unchunk.go:106", after := #[{ on := 3, ground := Ground.data }, { on := 7, ground := Ground.data }, { on := 11, ground := Ground.data }], guard := none }) rfl (fun K hK => ?_) AllReadyH.nil)
          go_simp
          refine (HNEW.out _).mono ?_
          rintro e x12 ⟨C, Lb, rfl, hM12, hb12, hC12, hL12⟩
          have g12 : x12.cell? ⟨k.R, 5, none⟩ = some (.int .i64 (LC : Nat)) ∧ x12.cell? ⟨k.R, 6, none⟩ = some (.int .i64 (LP : Nat)) ∧ x12.cell? ⟨k.R, 7, none⟩ = some (.int .i64 (PB : Nat)) := ⟨(hb12.cell (p := ⟨k.R, 5, none⟩) hRl).trans r5, (hb12.cell (p := ⟨k.R, 6, none⟩) hRl).trans r6, (hb12.cell (p := ⟨k.R, 7, none⟩) hRl).trans r7⟩
          have H12 := Lib.hid (And.intro hM12 (And.intro hb12 (And.intro hC12 hL12)))
          clear hM12 hb12 hC12 hL12
          go_wp2_with fail
          refine hK.out _ _ g12 (fun _ => ?_)
          clear hK K
          refine tk 13 (v := ?vuk47) ?yuk47 g12 ?_
          case yuk47 =>
            intro w hSw
            go_simp; all_goals (with_reducible rfl)
          simp only [Act.put, List.setIfInBounds_toArray, List.set_cons_zero, List.set_cons_succ]
          refine tk 14 (v := ?vuk48) ?yuk48 g12 ?_
          case yuk48 =>
            intro w hSw
            go_simp; all_goals (with_reducible rfl)
          simp only [Act.put, List.setIfInBounds_toArray, List.set_cons_zero, List.set_cons_succ]
          refine tk 15 (v := ?vuk49) ?yuk49 g12 ?_
          case yuk49 =>
            intro w hSw
            go_simp; all_goals (with_reducible rfl)
          simp only [Act.put, List.setIfInBounds_toArray, List.set_cons_zero, List.set_cons_succ]
          refine tk 16 (v := ?vuk50) ?yuk50 g12 ?_
          case yuk50 =>
            intro w hSw
            go_simp; all_goals (with_reducible rfl)
          simp only [Act.put, List.setIfInBounds_toArray, List.set_cons_zero, List.set_cons_succ]
          refine tk 17 (v := ?vuk51) ?yuk51 g12 ?_
          case yuk51 =>
            intro w hSw
            go_simp; all_goals (with_reducible rfl)
          simp only [Act.put, List.setIfInBounds_toArray, List.set_cons_zero, List.set_cons_succ]
          refine wpAnyH_done (by kernel_rfl) ?_ _
          clear hS hS0 hRl HNEW r5 r6 r7
          have hub12 := HUB.out.of_below ((Below.refl _ _).drew.trans (show Below w2.heap.size w2.drew x12 from H12.out.2.1))
          obtain ⟨_, ⟨_, _, _, _, _, _, _, _, r8⟩, _, hfr⟩ := hub12.cells
          have f8 := hfr 8
          have hput := hub12.put 8 (PF C) (s' := ckFresh s1) (cv' := PF C) (fun _ => rfl) rfl hub12.nums.2.2.2.2
          have hcod : CodU k.base (x12.setCell ⟨k.R, 8, none⟩ (PF C)) (PF C) (ckFresh s1) := by
            obtain ⟨v0, hrow, _⟩ := hub12.row
            have hb := Nat.le_trans HUB.out.bsz HUB.out.below.size
            have h1 := H12.out.2.2.1
            have h2 := H12.out.2.2.2
            have hc0 : CodU k.base x12 (PF C) (ckFresh s1) := fun _ _ => ⟨C, Lb, rfl, ⟨Nat.le_trans hb h1, Nat.le_trans hb h2⟩, by show ModAt _ C Lb s1.lc s1.lp s1.pb 0 (1, 1, 1, 1) (fun _ => 1024); rw [HLS.out.1, HLS.out.2.1, HLS.out.2.2]; exact H12.out.1, HPERM.out.2, (by decide : (0 : Nat) < 12), rGood1⟩
            exact hc0.set (p := ⟨k.R, 8, none⟩) hrow (by decide) (by decide) _
          obtain ⟨wt, hwt⟩ : ∃ W, x12.setCell ⟨k.R, 8, none⟩ (PF C) = W := ⟨_, rfl⟩
          rw [hwt] at hput hcod
          have HWT := Lib.hid hwt
          have HT : Hid (Uk k wt (pos + 4 + 1) (ckFresh s1) ∧ (ckFresh s1).clear = true ∧ (ckFresh s1).asked = false ∧ (ckFresh s1).out.length ≤ 400000000) := Lib.hid ⟨⟨_, hput, hcod⟩, HCL1.out, HS1.out.2.1, (by show s1.out.length ≤ _; rw [HS1.out.2.2]; exact HO.out)⟩
          clear hub12 hfr hput hcod hwt HUB H12
          go_upto_region 13 with fail
          rw [HWT.out]
          clear HWT f8 r8
          have HBT := Lib.hid (low_bytes HU1.out.1.below HT.out.1.below HU1.out.1.bsz HB1.out.1 HB1.out.2)
          have HTW := Lib.hid (uctwo_at (k := k) (p := pos) (n := 4) (i := 2) (c := c1 - 2) (A := A1.map (·.add 2)) (w := wt) (by have h := HBT.out.cutFrom (k := 2) (c := c1) (by have := HL4.out; simp; omega) (by have := HC4.out; have := HL4.out; simp; omega); rw [if_neg hc12] at h; exact h) (by have := HL4.out; omega) (by decide))
          obtain ⟨t, ht⟩ : ∃ t, ckTwo k.B (pos + 2) = t := ⟨_, rfl⟩
          rw [ht] at HTW HR
          have htl : t < 65536 := by rw [← ht]; exact ckTwo_lt _ _
          obtain ⟨n, hn⟩ : ∃ n, t + 1 = n := ⟨_, rfl⟩
          rw [hn] at HR
          have hti : (t : Int) + 1 = (n : Int) := by omega
          have hni : (n : Int) ≤ 65536 := by omega
          have HN65 := Lib.hid (show n ≤ 65536 by omega)
          clear ht htl hn
          go_wp2_with fail
          refine HTW.out.mono ?_
          rintro e w5 ⟨rfl, hb5⟩
          have HT5 := Lib.hid (HT.out.1.of_below hb5)
          clear hb5
          by_cases h3 : k.B.length < pos + 4 + 1 + n
          · have HN2 := Lib.hid (next_short_uk HT5.out n (by have := HN65.out; omega) h3)
            have HRF := Lib.hid (HR.out.trans (show unbytes k.B n _ k.dict (pos + 4 + 1) (ckFresh s1) = .bad 2 by unfold unbytes; exact if_pos h3))
            clear h3
            go_wp2_with fail
            refine HN2.out.mono ?_
            rintro e w6 ⟨rfl, rfl⟩
            go_wp2_with fail
            go_ret
            rw [HRF.out]
            exact ⟨rfl, HT5.out.below⟩
          · have HN2 := Lib.hid (next_good_uk HT5.out n (by have := HN65.out; omega) (by omega))
            have HRF := Lib.hid (HR.out.trans (show unbytes k.B n _ k.dict (pos + 4 + 1) (ckFresh s1) = undecode ((k.B.drop (pos + 4 + 1)).take n) _ k.dict (pos + 4 + 1 + n) (ckFresh s1) by unfold unbytes; exact if_neg h3))
            have H3 := Lib.hid h3
            clear h3
            go_wp2_with fail
            refine HN2.out.mono ?_
            rintro e w6 ⟨A6, c6, rfl, hc6, hB6, hU6⟩
            have HTW6 := Lib.hid (uctwo_at (k := k) (p := pos) (n := 4) (i := 0) (c := c1) (A := A1) (w := w6) (low_bytes HU1.out.1.below hU6.below HU1.out.1.bsz HB1.out.1 HB1.out.2) (by have := HL4.out; omega) (by decide))
            have HU6 := Lib.hid (And.intro hU6 (And.intro hB6 hc6))
            obtain ⟨u, hu⟩ : ∃ u, ckTwo k.B (pos + 0) = u := ⟨_, rfl⟩
            rw [hu] at HTW6
            rw [Nat.add_zero] at hu
            rw [hu] at HRF
            have hul : u < 65536 := by rw [← hu]; exact ckTwo_lt _ _
            obtain ⟨z, hz⟩ : ∃ z, 65536 * (c % 32) + u + 1 = z := ⟨_, rfl⟩
            rw [hz] at HRF
            have hz1 : ((c : Int) % 32) * 65536 + (u : Int) + 1 = (z : Int) := by omega
            have hz2 : wrap64 (((c : Int) % 32) * 65536) = ((c : Int) % 32) * 65536 := by unfold wrap64; omega
            have hz3 : IntKind.u8.wrap ((c : Int).tmod 32) = (c : Int) % 32 := by rw [Int.tmod_eq_emod_of_nonneg (by omega), IntKind.wrap_u8]; omega
            have hzb : z ≤ 4000000 := by omega
            have hui : (u : Int) < 65536 := by omega
            have hzi : (z : Int) ≤ 4000000 := by omega
            have HZ := Lib.hid hzb
            clear hU6 hB6 hc6 hu hul hz hzb
            go_wp2_with fail
            refine HTW6.out.mono ?_
            rintro e w7 ⟨rfl, hb7⟩
            have HU7 := Lib.hid (HU6.out.1.of_below hb7)
            have HB7 := Lib.hid (HU6.out.2.1.1.below hb7)
            clear hb7
            have hl7 : ((k.B.drop (pos + 4 + 1)).take n).length = n := by have := H3.out; simp; omega
            have hdec := decode_any (pos := pos + 4 + 1 + n) (s := (ckFresh s1)) HU7.out HT.out.2.1 HT.out.2.2.1 HT.out.2.2.2 A6 ((k.B.drop (pos + 4 + 1)).take n) c6 HB7.out (by have := HN65.out; omega) z HZ.out HD.out.1 HD.out.2
            rw [hl7] at hdec
            have HDEC := Lib.hid hdec
            clear hdec hl7
            go_wp2_with fail
            refine HDEC.out.mono ?_
            intro e w8 hd8
            obtain ⟨m, rfl, hd8⟩ := hd8.ret
            have HD8 := Lib.hid hd8
            clear hd8
            go_wp2_with fail
            go_ret
            rw [HRF.out]
            exact HD8.out
end Go.Proofs.Ytkckjjchfccdjaa
