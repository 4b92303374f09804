/- The document's Reader: a packed chunk. -/
import Derived.Test.YtkckjjchfccdjaaMg1
import Derived.Test.YtkckjjchfccdjaaMg27
namespace Go.Proofs.Ytkckjjchfccdjaa
set_option maxRecDepth 100000
open Go.RowKit

set_option maxHeartbeats 16000000 in
theorem urunpack_B {k : RkP} {w : World} {pos : Nat} {s : CkS} (h : Rk k w pos s) (c : Nat) (hc1 : 128 ≤ c) (hc2 : c < 256) (hcl : s.clear = true) (hca : ¬ (c < 192 ∧ s.asked = true)) (ho : s.out.length ≤ 400000000) (hd1 : 1 ≤ k.dict) (hd2 : k.dict ≤ 9223372036854775807) (h1 : ¬ k.B.length < pos + 4) (h160 : ¬ c < 160) (hq : c < 192) :
    Calls Try.prog 14 #[PF k.R, .int .i64 (c : Nat)] w (RkDone k (unpackC k.B k.dict c pos s)) := by
  have hused := And.intro hcl ho
  clear hused
  have HK := Lib.hid h
  have HD := Lib.hid (And.intro hd1 hd2)
  have hci : (c : Int) < 256 := by omega
  have hci0 : (128 : Int) ≤ (c : Int) := by omega
  obtain ⟨cv, hU, hC⟩ := h
  obtain ⟨v, ⟨_, _, _, _, _, _, a6, _, _, _, _⟩, _, _, _⟩ := hU.cells
  have ha6 : (c : Int) < 192 → s.asked = false := fun h => by
    cases hq : s.asked with
    | false => rfl
    | true => exact absurd ⟨by omega, hq⟩ hca
  have HH := Lib.hid (urhas_any HK.out 4)
  obtain ⟨u, hu⟩ : ∃ u, ckTwo k.B pos = u := ⟨_, rfl⟩
  obtain ⟨t, ht⟩ : ∃ t, ckTwo k.B (pos + 2) = t := ⟨_, rfl⟩
  have hul : u < 65536 := by rw [← hu]; exact ckTwo_lt _ _
  have htl : t < 65536 := by rw [← ht]; exact ckTwo_lt _ _
  obtain ⟨n, hn⟩ : ∃ n, t + 1 = n := ⟨_, rfl⟩
  obtain ⟨m0, hm0⟩ : ∃ m, 65536 * (c % 32) = m := ⟨_, rfl⟩
  obtain ⟨z, hz⟩ : ∃ z, m0 + u + 1 = z := ⟨_, rfl⟩
  obtain ⟨pp, hpp⟩ : ∃ p, pos + 4 = p := ⟨_, rfl⟩
  have hti : (t : Int) + 1 = (n : Int) := by omega
  have hni : (n : Int) ≤ 65536 := by omega
  have hmi : 65536 * ((c : Int) % 32) = (m0 : Int) := by omega
  have hzi : (m0 : Int) + (u : Int) + 1 = (z : Int) := by omega
  have hzb : (z : Int) ≤ 4000000 := by omega
  have hui : (u : Int) < 65536 := by omega
  have hm0i : (m0 : Int) ≤ 3000000 := by omega
  have HZ := Lib.hid (show z ≤ 4000000 by omega)
  have HN65 := Lib.hid (show n ≤ 65536 by omega)
  have h192 : c < 192 := by omega
  have has : s.asked = false := ha6 (by omega)
  rw [has] at a6
  have g192 : decide ((c : Int) < 192) = true := decide_eq_true (by omega)
  have g192b : decide ((192 : Int) ≤ (c : Int)) = false := decide_eq_false (by omega)
  rw [decide_eq_true (show pos + 4 ≤ k.B.length by omega)] at HH
  have hunp : unpackC k.B k.dict c pos s = ((unprops c k.B pp s).then (unnew c)).then (unbytes k.B n z k.dict) := by unfold unpackC; rw [if_neg h1, hu, ht, hn, hm0, hz, hpp]
  have HNUM := Lib.hid (And.intro hu (And.intro ht (And.intro hpp h1)))
  have hpr : unprops c k.B pp s = .go pp s := by unfold unprops; exact if_pos h192
  obtain ⟨LC, hLC⟩ : ∃ m, s.lc = m := ⟨_, rfl⟩
  obtain ⟨LP, hLP⟩ : ∃ m, s.lp = m := ⟨_, rfl⟩
  obtain ⟨PB, hPB⟩ : ∃ m, s.pb = m := ⟨_, rfl⟩
  have hperm : permB (s.lc : Nat) (s.lp : Nat) (s.pb : Nat) = true := by
    obtain ⟨_, _, _, _, hp, _⟩ := hC hcl has
    exact hp
  have hp' := of_decide_eq_true hperm
  have HPERM := Lib.hid (show LC + LP ≤ 4 ∧ PB ≤ 4 by omega)
  have HLS := Lib.hid (And.intro hLC (And.intro hLP hPB))
  have HPB := Lib.hid hperm
  have HR0 := Lib.hid (hunp.trans (show _ = unbytes k.B n z k.dict pp (ckFresh s) by rw [hpr, show (CkR.go pp s).then (unnew c) = unnew c pp s from rfl, show unnew c pp s = .go pp (ckFresh s) by unfold unnew; rw [if_neg h160, if_neg (by rw [hperm]; decide)]]; rfl))
  have g160 : decide ((160 : Int) ≤ (c : Int)) = true := decide_eq_true (by omega)
  have HSF := Lib.hid (show (ckFresh s).clear = true ∧ (ckFresh s).asked = false ∧ (ckFresh s).out.length ≤ 400000000 from ⟨hcl, has, ho⟩)
  clear hU hC ha6 hu ht hul htl hn hm0 hz hpp h192 has h1 hc1 hc2 hcl hca ho hd1 hd2 hunp hpr h160 hLC hLP hPB hperm hp'
  go_enter Try.func14, Try.ntmps14
  go_wp2_with fail
  refine HH.out.mono ?_
  rintro e w1 ⟨rfl, hb1⟩
  have HTW1 := Lib.hid (urtwo_any (HK.out.of_below hb1) (by have := HNUM.out; omega))
  rw [HNUM.out.1] at HTW1
  clear hb1
  go_wp2_with fail
  refine HTW1.out.mono ?_
  rintro e w2 ⟨rfl, hk2⟩
  have HTW2 := Lib.hid (urtwo_any hk2 (by have := HNUM.out; omega))
  rw [HNUM.out.2.1, show pos + 2 + 2 = pp by have := HNUM.out; omega] at HTW2
  clear hk2
  go_wp2_with fail
  refine HTW2.out.mono ?_
  rintro e w3 ⟨rfl, hk3⟩
  have HK3 := Lib.hid hk3
  clear hk3
  obtain ⟨pp2, hpp2⟩ : ∃ x, pp = x := ⟨_, rfl⟩
  subst hpp2
  obtain ⟨pp2, hpp2⟩ : ∃ x, pp = x := ⟨_, rfl⟩
  have HR : Hid (unpackC k.B k.dict c pos s = unbytes k.B n z k.dict pp2 (ckFresh s)) := Lib.hid (by rw [← hpp2]; exact HR0.out)
  obtain ⟨cvN, hubN, _⟩ := HK3.out
  rw [hpp2] at hubN
  have HUBN := Lib.hid hubN
  clear hubN hpp2 HR0 HNUM HK3 a6
  obtain ⟨vN, ⟨_, _, _, _, _, _, _, r7, r8, r9, r10⟩, _, hfrN, hRlN⟩ := HUBN.out.cells
  rw [HLS.out.1] at r7
  rw [HLS.out.2.1] at r8
  rw [HLS.out.2.2] at r9
  have HNEW := Lib.hid (fun W => newC_any LC LP PB (by have := HPERM.out; omega) W)
  have HS20 : Hid (∀ W : World, Below w3.heap.size w3 W → W.cell? ⟨k.R, 7, none⟩ = some (.int .i64 (LC : Nat)) ∧ W.cell? ⟨k.R, 8, none⟩ = some (.int .i64 (LP : Nat)) ∧ W.cell? ⟨k.R, 9, none⟩ = some (.int .i64 (PB : Nat))) := Lib.hid (fun W hW => ⟨(hW.cell (p := ⟨k.R, 7, none⟩) hRlN).trans r7, (hW.cell (p := ⟨k.R, 8, none⟩) hRlN).trans r8, (hW.cell (p := ⟨k.R, 9, none⟩) hRlN).trans r9⟩)
  have HQ10 : Hid ((∀ W : World, Below w3.heap.size w3 W → W.cell? ⟨k.R, 10, none⟩ = some cvN) ∧ ∀ W : World, Below w3.heap.size w3 W → W.frozen? ⟨k.R, 10, none⟩ = false) := Lib.hid ⟨fun W hW => (hW.cell (p := ⟨k.R, 10, none⟩) hRlN).trans r10, fun W hW => (hW.frozen (p := ⟨k.R, 10, none⟩) hRlN).trans (hfrN 10)⟩
  have hset20 : ∀ (W : World) (u : Value), (W.cell? ⟨k.R, 7, none⟩ = some (.int .i64 (LC : Nat)) ∧ W.cell? ⟨k.R, 8, none⟩ = some (.int .i64 (LP : Nat)) ∧ W.cell? ⟨k.R, 9, none⟩ = some (.int .i64 (PB : Nat))) → (W.setCell ⟨k.R, 10, none⟩ u).cell? ⟨k.R, 7, none⟩ = some (.int .i64 (LC : Nat)) ∧ (W.setCell ⟨k.R, 10, none⟩ u).cell? ⟨k.R, 8, none⟩ = some (.int .i64 (LP : Nat)) ∧ (W.setCell ⟨k.R, 10, none⟩ u).cell? ⟨k.R, 9, none⟩ = some (.int .i64 (PB : Nat)) := fun W u hW => ⟨(World.cell?_setCell_other _ _ _ _ (by simp)).trans hW.1, (World.cell?_setCell_other _ _ _ _ (by simp)).trans hW.2.1, (World.cell?_setCell_other _ _ _ _ (by simp)).trans hW.2.2⟩
  have hS0 := HS20.out w3.drew (drew_below _)
  clear r7 r8 r9 r10 hfrN hRlN
  go_upto_region 20 with fail
  refine wp_region_held_drew (S := fun W => W.cell? ⟨k.R, 7, none⟩ = some (.int .i64 (LC : Nat)) ∧ W.cell? ⟨k.R, 8, none⟩ = some (.int .i64 (LP : Nat)) ∧ W.cell? ⟨k.R, 9, none⟩ = some (.int .i64 (PB : Nat))) (by kernel_rfl) hS0 (fun hS => ?_)
  refine tk 0 (v := ?vnw226) ?ynw226 hS ?_
  case ynw226 =>
    intro w hSw
    go_simp; all_goals (with_reducible rfl)
  simp only [Act.put, List.setIfInBounds_toArray, List.set_cons_zero, List.set_cons_succ]
  refine tk 1 (v := ?vnw227) ?ynw227 hS ?_
  case ynw227 =>
    intro w hSw
    go_simp; all_goals (with_reducible rfl)
  simp only [Act.put, List.setIfInBounds_toArray, List.set_cons_zero, List.set_cons_succ]
  refine tk 2 (v := ?vnw228) ?ynw228 hS ?_
  case ynw228 =>
    intro w hSw
    go_simp; all_goals (with_reducible rfl)
  simp only [Act.put, List.setIfInBounds_toArray, List.set_cons_zero, List.set_cons_succ]
  refine tk 3 (v := ?vnw229) ?ynw229 hS ?_
  case ynw229 =>
    intro w hSw
    go_simp; all_goals (with_reducible rfl)
  simp only [Act.put, List.setIfInBounds_toArray, List.set_cons_zero, List.set_cons_succ]
  refine tk 4 (v := ?vnw230) ?ynw230 hS ?_
  case ynw230 =>
    intro w hSw
    obtain ⟨q7, q8, q9⟩ := hSw
    go_simp; all_goals (with_reducible rfl)
  simp only [Act.put, List.setIfInBounds_toArray, List.set_cons_zero, List.set_cons_succ]
  refine tk 5 (v := ?vnw231) ?ynw231 hS ?_
  case ynw231 =>
    intro w hSw
    go_simp; all_goals (with_reducible rfl)
  simp only [Act.put, List.setIfInBounds_toArray, List.set_cons_zero, List.set_cons_succ]
  refine tk 6 (v := ?vnw232) ?ynw232 hS ?_
  case ynw232 =>
    intro w hSw
    go_simp; all_goals (with_reducible rfl)
  simp only [Act.put, List.setIfInBounds_toArray, List.set_cons_zero, List.set_cons_succ]
  refine tk 7 (v := ?vnw233) ?ynw233 hS ?_
  case ynw233 =>
    intro w hSw
    go_simp; all_goals (with_reducible rfl)
  simp only [Act.put, List.setIfInBounds_toArray, List.set_cons_zero, List.set_cons_succ]
  refine tk 8 (v := ?vnw234) ?ynw234 hS ?_
  case ynw234 =>
    intro w hSw
    obtain ⟨q7, q8, q9⟩ := hSw
    go_simp; all_goals (with_reducible rfl)
  simp only [Act.put, List.setIfInBounds_toArray, List.set_cons_zero, List.set_cons_succ]
  refine tk 9 (v := ?vnw235) ?ynw235 hS ?_
  case ynw235 =>
    intro w hSw
    go_simp; all_goals (with_reducible rfl)
  simp only [Act.put, List.setIfInBounds_toArray, List.set_cons_zero, List.set_cons_succ]
  refine tk 10 (v := ?vnw236) ?ynw236 hS ?_
  case ynw236 =>
    intro w hSw
    go_simp; all_goals (with_reducible rfl)
  simp only [Act.put, List.setIfInBounds_toArray, List.set_cons_zero, List.set_cons_succ]
  refine tk 11 (v := ?vnw237) ?ynw237 hS ?_
  case ynw237 =>
    intro w hSw
    go_simp; all_goals (with_reducible rfl)
  simp only [Act.put, List.setIfInBounds_toArray, List.set_cons_zero, List.set_cons_succ]
  refine tk 12 (v := ?vnw238) ?ynw238 hS ?_
  case ynw238 =>
    intro w hSw
    obtain ⟨q7, q8, q9⟩ := hSw
    go_simp; all_goals (with_reducible rfl)
  simp only [Act.put, List.setIfInBounds_toArray, List.set_cons_zero, List.set_cons_succ]
  refine wpAnyH_ready (rs := [13]) (by kernel_rfl) (by simp) ?_
  refine (AllReadyH.cons (o := { dst := some 108, op := Op.call { callee := Callee.value (Operand.func 23), args := #[Operand.tmp 99, Operand.tmp 103, Operand.tmp 107], argTypes := #[3, 3, 3] }, type := 46, pos := "ref.go:58", after := #[{ on := 4, ground := Ground.data }, { on := 8, ground := Ground.data }, { on := 12, ground := Ground.data }], guard := none }) rfl (fun K hK => ?_) AllReadyH.nil)
  go_simp
  refine (HNEW.out _).mono ?_
  rintro e x12 ⟨C, vR, vP, rfl, hM12, hb12, hC12⟩
  have g12 := HS20.out x12 ((drew_below _).trans hb12)
  have q10 := HQ10.out.1 x12 ((drew_below _).trans hb12)
  have f10 := HQ10.out.2 x12 ((drew_below _).trans hb12)
  have H12 := Lib.hid (And.intro hM12 (And.intro hb12 hC12))
  clear hM12 hb12 hC12
  go_wp2_with fail
  refine hK.out _ _ g12 (fun _ => ?_)
  clear hK K
  refine tk 14 (v := ?vnw239) ?ynw239 g12 ?_
  case ynw239 =>
    intro w hSw
    go_simp; all_goals (with_reducible rfl)
  simp only [Act.put, List.setIfInBounds_toArray, List.set_cons_zero, List.set_cons_succ]
  refine tk 15 (v := ?vnw240) ?ynw240 g12 ?_
  case ynw240 =>
    intro w hSw
    go_simp; all_goals (with_reducible rfl)
  simp only [Act.put, List.setIfInBounds_toArray, List.set_cons_zero, List.set_cons_succ]
  refine wpAnyH_ready (rs := [16]) (by kernel_rfl) (by simp) ?_
  refine (AllReadyH.cons (o := { dst := none, op := Op.store 46 (Operand.tmp 110) (Operand.tmp 108), type := 0, pos := "ref.go:58", after := #[{ on := 15, ground := Ground.data }, { on := 13, ground := Ground.data }, { on := 13, ground := Ground.chain }, { on := 0, ground := Ground.phase }, { on := 1, ground := Ground.phase }, { on := 2, ground := Ground.phase }, { on := 3, ground := Ground.phase }, { on := 4, ground := Ground.phase }, { on := 5, ground := Ground.phase }, { on := 6, ground := Ground.phase }, { on := 7, ground := Ground.phase }, { on := 8, ground := Ground.phase }, { on := 9, ground := Ground.phase }, { on := 10, ground := Ground.phase }, { on := 11, ground := Ground.phase }, { on := 12, ground := Ground.phase }, { on := 13, ground := Ground.phase }], guard := none }) rfl (fun K hK => ?_) AllReadyH.nil)
  go_simp
  have s9 := hset20 _ (PF C) g12
  refine hK.out _ _ s9 (fun _ => ?_)
  clear hK K
  refine wpAnyH_done (by kernel_rfl) ?_ _
  clear hS hS0 hset20 HNEW q10 f10
  have hub12 := HUBN.out.of_below ((drew_below _).trans (show Below w3.heap.size w3.drew x12 from H12.out.2.1))
  have hbW := Nat.le_trans HUBN.out.bsz HUBN.out.below.size
  have hput := hub12.put 10 (PF C) (pos' := pp2) (s' := ckFresh s) (cv' := PF C) (fun _ => rfl) rfl hub12.nums.2.2.2.1 hub12.nums.2.2.2.2
  have hc0 : CodR k.base x12 (PF C) (ckFresh s) := fun _ _ => ⟨C, rfl, Nat.le_trans hbW H12.out.2.2, urd_new H12.out.1 hbW HLS.out.1 HLS.out.2.1 HLS.out.2.2, HPB.out, (by decide : (0 : Nat) < 12), rGood1⟩
  obtain ⟨csN, hrN⟩ := hub12.hR
  have hcod := hc0.set (p := ⟨k.R, 10, none⟩) hrN (PF C)
  obtain ⟨wt, hwt⟩ : ∃ W, x12.setCell ⟨k.R, 10, none⟩ (PF C) = W := ⟨_, rfl⟩
  rw [hwt] at hput hcod
  have HWT := Lib.hid hwt
  obtain ⟨s2, hs2⟩ : ∃ x, ckFresh s = x := ⟨_, rfl⟩
  rw [hs2] at hput hcod HR
  have HT : Hid (Rk k wt pp2 s2 ∧ s2.clear = true ∧ s2.asked = false ∧ s2.out.length ≤ 400000000) := Lib.hid ⟨⟨_, hput, hcod⟩, by rw [← hs2]; exact HSF.out.1, by rw [← hs2]; exact HSF.out.2.1, by rw [← hs2]; exact HSF.out.2.2⟩
  clear hub12 hbW hput hc0 hrN hcod hwt hs2 H12
  go_upto_region 21 with fail
  rw [HWT.out]
  clear HWT
  have HH3 := Lib.hid (urhas_any HT.out.1 n)
  by_cases h3 : k.B.length < pp2 + n
  · rw [decide_eq_false (show ¬ pp2 + n ≤ k.B.length by omega)] at HH3
    have HRF := Lib.hid (HR.out.trans (show unbytes k.B n z k.dict pp2 s2 = .bad 2 by unfold unbytes; exact if_pos h3))
    clear h3
    go_wp2_with fail
    refine HH3.out.mono ?_
    rintro e w5 ⟨rfl, hb5⟩
    go_wp2_with fail
    go_ret
    rw [HRF.out]
    exact ⟨rfl, (HT.out.1.of_below hb5).below⟩
  rw [decide_eq_true (show pp2 + n ≤ k.B.length by omega)] at HH3
  obtain ⟨LB, hLB⟩ : ∃ l, (k.B.drop pp2).take n = l := ⟨_, rfl⟩
  obtain ⟨p3, hp3⟩ : ∃ m, pp2 + n = m := ⟨_, rfl⟩
  have HRF := Lib.hid (HR.out.trans (show unbytes k.B n z k.dict pp2 s2 = undecode LB z k.dict p3 s2 by unfold unbytes; rw [if_neg h3, hLB, hp3]))
  have hlen : LB.length = n := by rw [← hLB]; simp; omega
  have HLB := Lib.hid (And.intro hLB (And.intro hp3 (And.intro hlen h3)))
  clear hLB hp3 hlen h3 HR
  go_wp2_with fail
  refine HH3.out.mono ?_
  rintro e w5 ⟨rfl, hb5⟩
  obtain ⟨cv, hU, hC⟩ := HT.out.1.of_below hb5
  obtain ⟨C, rfl, hCb, hCS, hperm, hst, hrg⟩ := hC HT.out.2.1 HT.out.2.2.1
  obtain ⟨v, ⟨r0, r1, _, _, _, _, _, _, _, _, _⟩, _, hfr, hRl⟩ := hU.cells
  obtain ⟨n1, n2, n3, n4, n5⟩ := hU.nums
  have hcut := (hU.bytes.1.cutFrom (k := pp2) n4 n1).take n
  rw [HLB.out.1] at hcut
  obtain ⟨AP, hAP⟩ : ∃ AP, (if k.c = pp2 then k.A else k.A.map (·.add pp2)) = AP := ⟨_, rfl⟩
  rw [hAP] at hcut
  obtain ⟨cp, hcp⟩ : ∃ m, k.c - pp2 = m := ⟨_, rfl⟩
  have hl2 := HLB.out.2.1
  have hl3 := HLB.out.2.2.2
  have hdiff : p3 - pp2 = n := by omega
  have hcl : ∀ a, AP = some a → a.block < k.base := by
    intro a ha
    rw [← hAP] at ha
    split at ha
    · exact hU.bytes.2 a ha
    · cases hA : k.A with
      | none => rw [hA] at ha; cases ha
      | some a' =>
        rw [hA] at ha
        have e : a'.add pp2 = a := by simpa using ha
        rw [← e]; exact (show (a'.add pp2).block = a'.block from by unfold Addr.add; split <;> rfl) ▸ hU.bytes.2 a' hA
  have HAP := Lib.hid (And.intro hAP (And.intro hdiff hcp))
  have HSK : Hid (∀ W : World, Below w5.heap.size w5 W → W.cell? ⟨k.R, 0, none⟩ = some (.slice k.A k.B.length k.c) ∧ W.cell? ⟨k.R, 1, none⟩ = some (.int .i64 (pp2 : Nat))) := Lib.hid (fun W hW => ⟨(hW.cell (p := ⟨k.R, 0, none⟩) hRl).trans r0, (hW.cell (p := ⟨k.R, 1, none⟩) hRl).trans r1⟩)
  have hS0 := HSK.out w5.drew (drew_below w5)
  have f1 : w5.drew.frozen? ⟨k.R, 1, none⟩ = false := hfr 1
  have HU := Lib.hid (And.intro hU (And.intro hCb (And.intro hCS (And.intro hperm (And.intro hst hrg)))))
  have HCUT := Lib.hid (And.intro hcut hcl)
  have hp3i : (pp2 : Int) + (n : Int) = (p3 : Int) := by omega
  have hpp3 : (pp2 : Int) ≤ (p3 : Int) := by omega
  have hp3L : (p3 : Int) ≤ (k.B.length : Int) := by omega
  have hLc : (k.B.length : Int) ≤ (k.c : Int) := by omega
  have hci2 : (k.c : Int) ≤ 9223372036854775807 := by omega
  have hLi : (k.B.length : Int) ≤ 140737488355328 := by omega
  have hw3 : IntKind.i64.wrap (p3 : Int) = (p3 : Int) := IntWalk.i64_in _ (by omega)
  have hp3c : p3 ≤ k.c := by omega
  have hpp3n : pp2 ≤ p3 := by omega
  have HP3 := Lib.hid (show p3 ≤ k.B.length ∧ s2.start ≤ s2.out.length by omega)
  clear hU hC hCb hCS hperm hst hrg hfr n1 n2 n3 n4 n5 hcut hAP hcp hdiff hcl hl2 hl3 hb5 r0 r1
  by_cases hgood : 5 ≤ LB.length ∧ LB.getD 0 0 = 0
  case neg =>
    obtain ⟨m, hm, hN⟩ : ∃ m : Int, m ≠ 0 ∧ ∀ W : World, Below w5.heap.size w5 W → Calls Try.prog 24 #[.slice AP LB.length cp] W (RNone W m) := by
      by_cases h5 : LB.length < 5
      · exact ⟨2, by decide, fun W _ => rdnew_short AP LB cp W h5⟩
      · exact ⟨6, by decide, fun W hW => rdnew_bad AP LB cp W (HCUT.out.1.below hW) (by omega) (fun h0 => hgood ⟨by omega, h0⟩)⟩
    rw [HLB.out.2.2.1] at hN
    have HRG := Lib.hid (HRF.out.trans (show undecode LB z k.dict p3 s2 = .bad 6 by
      unfold undecode
      by_cases h5 : LB.length < 5
      · rw [if_pos h5]
      · rw [if_neg h5, if_pos (fun h0 => hgood ⟨by omega, h0⟩)]))
    have hmb : (m == 0) = false := beq_eq_false_iff_ne.2 hm
    have hmb2 : (m != 0) = true := by rw [bne_iff_ne]; exact hm
    clear hgood HRF
    go_upto_region 23 with fail
    refine wp_region_held_drew (S := fun W => W.cell? ⟨k.R, 0, none⟩ = some (.slice k.A k.B.length k.c) ∧ W.cell? ⟨k.R, 1, none⟩ = some (.int .i64 (pp2 : Nat))) (by kernel_rfl) hS0 (fun hS => ?_)
    refine tk 0 (v := ?vne241) ?yne241 hS ?_
    case yne241 =>
      intro w hSw
      go_simp; all_goals (with_reducible rfl)
    simp only [Act.put, List.setIfInBounds_toArray, List.set_cons_zero, List.set_cons_succ]
    refine tk 1 (v := ?vne242) ?yne242 hS ?_
    case yne242 =>
      intro w hSw
      go_simp; all_goals (with_reducible rfl)
    simp only [Act.put, List.setIfInBounds_toArray, List.set_cons_zero, List.set_cons_succ]
    refine tk 2 (v := ?vne243) ?yne243 hS ?_
    case yne243 =>
      intro w hSw
      go_simp; all_goals (with_reducible rfl)
    simp only [Act.put, List.setIfInBounds_toArray, List.set_cons_zero, List.set_cons_succ]
    refine tk 3 (v := ?vne244) ?yne244 hS ?_
    case yne244 =>
      intro w hSw
      obtain ⟨q0, q1⟩ := hSw
      go_simp; all_goals (with_reducible rfl)
    simp only [Act.put, List.setIfInBounds_toArray, List.set_cons_zero, List.set_cons_succ]
    refine tk 4 (v := ?vne245) ?yne245 hS ?_
    case yne245 =>
      intro w hSw
      go_simp; all_goals (with_reducible rfl)
    simp only [Act.put, List.setIfInBounds_toArray, List.set_cons_zero, List.set_cons_succ]
    refine tk 5 (v := ?vne246) ?yne246 hS ?_
    case yne246 =>
      intro w hSw
      go_simp; all_goals (with_reducible rfl)
    simp only [Act.put, List.setIfInBounds_toArray, List.set_cons_zero, List.set_cons_succ]
    refine tk 6 (v := ?vne247) ?yne247 hS ?_
    case yne247 =>
      intro w hSw
      go_simp; all_goals (with_reducible rfl)
    simp only [Act.put, List.setIfInBounds_toArray, List.set_cons_zero, List.set_cons_succ]
    refine tk 7 (v := ?vne248) ?yne248 hS ?_
    case yne248 =>
      intro w hSw
      obtain ⟨q0, q1⟩ := hSw
      go_simp; all_goals (with_reducible rfl)
    simp only [Act.put, List.setIfInBounds_toArray, List.set_cons_zero, List.set_cons_succ]
    refine tk 8 (v := ?vne249) ?yne249 hS ?_
    case yne249 =>
      intro w hSw
      go_simp; all_goals (with_reducible rfl)
    simp only [Act.put, List.setIfInBounds_toArray, List.set_cons_zero, List.set_cons_succ]
    refine tk 9 (v := ?vne250) ?yne250 hS ?_
    case yne250 =>
      intro w hSw
      go_simp; all_goals (with_reducible rfl)
    simp only [Act.put, List.setIfInBounds_toArray, List.set_cons_zero, List.set_cons_succ]
    refine tk 10 (v := ?vne251) ?yne251 hS ?_
    case yne251 =>
      intro w hSw
      go_simp; all_goals (with_reducible rfl)
    simp only [Act.put, List.setIfInBounds_toArray, List.set_cons_zero, List.set_cons_succ]
    refine tk 11 (v := ?vne252) ?yne252 hS ?_
    case yne252 =>
      intro w hSw
      obtain ⟨q0, q1⟩ := hSw
      go_simp; all_goals (with_reducible rfl)
    simp only [Act.put, List.setIfInBounds_toArray, List.set_cons_zero, List.set_cons_succ]
    refine tk 12 (v := ?vne253) ?yne253 hS ?_
    case yne253 =>
      intro w hSw
      go_simp; all_goals (with_reducible rfl)
    simp only [Act.put, List.setIfInBounds_toArray, List.set_cons_zero, List.set_cons_succ]
    refine tk 13 (v := ?vne254) ?yne254 hS ?_
    case yne254 =>
      intro w hSw
      go_simp; all_goals (with_reducible rfl)
    simp only [Act.put, List.setIfInBounds_toArray, List.set_cons_zero, List.set_cons_succ]
    refine tk 14 (v := .slice AP n cp) ?yne255 hS ?_
    case yne255 =>
      intro w hSw
      go_simp; exact ⟨HAP.out.1, HAP.out.2.1, HAP.out.2.2⟩
    simp only [Act.put, List.setIfInBounds_toArray, List.set_cons_zero, List.set_cons_succ]
    refine wpAnyH_ready (rs := [15]) (by kernel_rfl) (by simp) ?_
    refine (AllReadyH.cons (o := { dst := some 131, op := Op.call { callee := Callee.value (Operand.func 24), args := #[Operand.tmp 130], argTypes := #[22] }, type := 67, pos := "ref.go:63", after := #[{ on := 14, ground := Ground.data }], guard := none }) rfl (fun K hK => ?_) AllReadyH.nil)
    go_simp
    refine (hN _ (drew_below w5)).mono ?_
    rintro e x7 ⟨rfl, ex⟩
    subst ex
    have g7 := hS
    go_wp2_with fail
    refine hK.out _ _ g7 (fun _ => ?_)
    clear hK K
    refine tk 16 (v := ?vne256) ?yne256 g7 ?_
    case yne256 =>
      intro w hSw
      go_simp; all_goals (with_reducible rfl)
    simp only [Act.put, List.setIfInBounds_toArray, List.set_cons_zero, List.set_cons_succ]
    refine tk 17 (v := ?vne257) ?yne257 g7 ?_
    case yne257 =>
      intro w hSw
      go_simp; all_goals (with_reducible rfl)
    simp only [Act.put, List.setIfInBounds_toArray, List.set_cons_zero, List.set_cons_succ]
    refine tk 18 (v := ?vne258) ?yne258 g7 ?_
    case yne258 =>
      intro w hSw
      go_simp; all_goals (with_reducible rfl)
    simp only [Act.put, List.setIfInBounds_toArray, List.set_cons_zero, List.set_cons_succ]
    refine tk 19 (v := ?vne259) ?yne259 g7 ?_
    case yne259 =>
      intro w hSw
      go_simp; all_goals (with_reducible rfl)
    simp only [Act.put, List.setIfInBounds_toArray, List.set_cons_zero, List.set_cons_succ]
    refine tk 20 (v := ?vne260) ?yne260 g7 ?_
    case yne260 =>
      intro w hSw
      go_simp; all_goals (with_reducible rfl)
    simp only [Act.put, List.setIfInBounds_toArray, List.set_cons_zero, List.set_cons_succ]
    refine wpAnyH_done (by kernel_rfl) ?_ _
    obtain ⟨_, q1⟩ := hS0
    clear hS hN
    go_wp2_with fail
    go_ret
    rw [HRG.out]
    exact ⟨rfl, ((HU.out.1.of_below (drew_below w5)).below).setCell (p := ⟨k.R, 1, none⟩) HU.out.1.low _⟩
  case pos =>
    obtain ⟨b, off, eAP, hbl, _⟩ := HCUT.out.1.addr (show 0 < LB.length by omega)
    have hblow : b < k.base := HCUT.out.2 _ eAP
    have HNW : Hid (∀ W : World, Below w5.heap.size w5 W → Calls Try.prog 24 #[.slice AP LB.length cp] W (RSome W b off cp LB)) := Lib.hid (fun W hW => by
      have h0 := HCUT.out.1.below hW
      rw [eAP] at h0 ⊢
      exact rdnew_good b off LB cp W h0 hgood.1 hgood.2)
    rw [HLB.out.2.2.1] at HNW
    have HGOOD := Lib.hid (And.intro hgood hblow)
    clear hbl hblow hgood eAP
    go_upto_region 23 with fail
    refine wp_region_held_drew (S := fun W => W.cell? ⟨k.R, 0, none⟩ = some (.slice k.A k.B.length k.c) ∧ W.cell? ⟨k.R, 1, none⟩ = some (.int .i64 (pp2 : Nat))) (by kernel_rfl) hS0 (fun hS => ?_)
    refine tk 0 (v := ?vpo261) ?ypo261 hS ?_
    case ypo261 =>
      intro w hSw
      go_simp; all_goals (with_reducible rfl)
    simp only [Act.put, List.setIfInBounds_toArray, List.set_cons_zero, List.set_cons_succ]
    refine tk 1 (v := ?vpo262) ?ypo262 hS ?_
    case ypo262 =>
      intro w hSw
      go_simp; all_goals (with_reducible rfl)
    simp only [Act.put, List.setIfInBounds_toArray, List.set_cons_zero, List.set_cons_succ]
    refine tk 2 (v := ?vpo263) ?ypo263 hS ?_
    case ypo263 =>
      intro w hSw
      go_simp; all_goals (with_reducible rfl)
    simp only [Act.put, List.setIfInBounds_toArray, List.set_cons_zero, List.set_cons_succ]
    refine tk 3 (v := ?vpo264) ?ypo264 hS ?_
    case ypo264 =>
      intro w hSw
      obtain ⟨q0, q1⟩ := hSw
      go_simp; all_goals (with_reducible rfl)
    simp only [Act.put, List.setIfInBounds_toArray, List.set_cons_zero, List.set_cons_succ]
    refine tk 4 (v := ?vpo265) ?ypo265 hS ?_
    case ypo265 =>
      intro w hSw
      go_simp; all_goals (with_reducible rfl)
    simp only [Act.put, List.setIfInBounds_toArray, List.set_cons_zero, List.set_cons_succ]
    refine tk 5 (v := ?vpo266) ?ypo266 hS ?_
    case ypo266 =>
      intro w hSw
      go_simp; all_goals (with_reducible rfl)
    simp only [Act.put, List.setIfInBounds_toArray, List.set_cons_zero, List.set_cons_succ]
    refine tk 6 (v := ?vpo267) ?ypo267 hS ?_
    case ypo267 =>
      intro w hSw
      go_simp; all_goals (with_reducible rfl)
    simp only [Act.put, List.setIfInBounds_toArray, List.set_cons_zero, List.set_cons_succ]
    refine tk 7 (v := ?vpo268) ?ypo268 hS ?_
    case ypo268 =>
      intro w hSw
      obtain ⟨q0, q1⟩ := hSw
      go_simp; all_goals (with_reducible rfl)
    simp only [Act.put, List.setIfInBounds_toArray, List.set_cons_zero, List.set_cons_succ]
    refine tk 8 (v := ?vpo269) ?ypo269 hS ?_
    case ypo269 =>
      intro w hSw
      go_simp; all_goals (with_reducible rfl)
    simp only [Act.put, List.setIfInBounds_toArray, List.set_cons_zero, List.set_cons_succ]
    refine tk 9 (v := ?vpo270) ?ypo270 hS ?_
    case ypo270 =>
      intro w hSw
      go_simp; all_goals (with_reducible rfl)
    simp only [Act.put, List.setIfInBounds_toArray, List.set_cons_zero, List.set_cons_succ]
    refine tk 10 (v := ?vpo271) ?ypo271 hS ?_
    case ypo271 =>
      intro w hSw
      go_simp; all_goals (with_reducible rfl)
    simp only [Act.put, List.setIfInBounds_toArray, List.set_cons_zero, List.set_cons_succ]
    refine tk 11 (v := ?vpo272) ?ypo272 hS ?_
    case ypo272 =>
      intro w hSw
      obtain ⟨q0, q1⟩ := hSw
      go_simp; all_goals (with_reducible rfl)
    simp only [Act.put, List.setIfInBounds_toArray, List.set_cons_zero, List.set_cons_succ]
    refine tk 12 (v := ?vpo273) ?ypo273 hS ?_
    case ypo273 =>
      intro w hSw
      go_simp; all_goals (with_reducible rfl)
    simp only [Act.put, List.setIfInBounds_toArray, List.set_cons_zero, List.set_cons_succ]
    refine tk 13 (v := ?vpo274) ?ypo274 hS ?_
    case ypo274 =>
      intro w hSw
      go_simp; all_goals (with_reducible rfl)
    simp only [Act.put, List.setIfInBounds_toArray, List.set_cons_zero, List.set_cons_succ]
    refine tk 14 (v := .slice AP n cp) ?ypo275 hS ?_
    case ypo275 =>
      intro w hSw
      go_simp; exact ⟨HAP.out.1, HAP.out.2.1, HAP.out.2.2⟩
    simp only [Act.put, List.setIfInBounds_toArray, List.set_cons_zero, List.set_cons_succ]
    refine wpAnyH_ready (rs := [15]) (by kernel_rfl) (by simp) ?_
    refine (AllReadyH.cons (o := { dst := some 131, op := Op.call { callee := Callee.value (Operand.func 24), args := #[Operand.tmp 130], argTypes := #[22] }, type := 67, pos := "ref.go:63", after := #[{ on := 14, ground := Ground.data }], guard := none }) rfl (fun K hK => ?_) AllReadyH.nil)
    go_simp
    refine (HNW.out _ (drew_below w5)).mono ?_
    rintro e x7 ⟨hd, rfl, hD7, hb7, hh7⟩
    have g7 := HSK.out x7 ((drew_below w5).trans hb7)
    have H7 := Lib.hid (And.intro hD7 (And.intro ((drew_below w5).trans hb7) hh7))
    clear hD7 hb7 hh7
    go_wp2_with fail
    refine hK.out _ _ g7 (fun _ => ?_)
    clear hK K
    refine tk 16 (v := ?vpo276) ?ypo276 g7 ?_
    case ypo276 =>
      intro w hSw
      go_simp; all_goals (with_reducible rfl)
    simp only [Act.put, List.setIfInBounds_toArray, List.set_cons_zero, List.set_cons_succ]
    refine tk 17 (v := ?vpo277) ?ypo277 g7 ?_
    case ypo277 =>
      intro w hSw
      go_simp; all_goals (with_reducible rfl)
    simp only [Act.put, List.setIfInBounds_toArray, List.set_cons_zero, List.set_cons_succ]
    refine tk 18 (v := ?vpo278) ?ypo278 g7 ?_
    case ypo278 =>
      intro w hSw
      go_simp; all_goals (with_reducible rfl)
    simp only [Act.put, List.setIfInBounds_toArray, List.set_cons_zero, List.set_cons_succ]
    refine tk 19 (v := ?vpo279) ?ypo279 g7 ?_
    case ypo279 =>
      intro w hSw
      go_simp; all_goals (with_reducible rfl)
    simp only [Act.put, List.setIfInBounds_toArray, List.set_cons_zero, List.set_cons_succ]
    refine tk 20 (v := ?vpo280) ?ypo280 g7 ?_
    case ypo280 =>
      intro w hSw
      go_simp; all_goals (with_reducible rfl)
    simp only [Act.put, List.setIfInBounds_toArray, List.set_cons_zero, List.set_cons_succ]
    refine wpAnyH_done (by kernel_rfl) ?_ _
    clear hS hS0 HNW
    obtain ⟨_, q1⟩ := g7
    have hU7 := HU.out.1.of_below H7.out.2.1
    have hbase := Nat.le_trans hU7.bsz hU7.below.size
    obtain ⟨_, ⟨_, _, _, _, _, _, _, _, _, _, q10⟩, _, qfr, qRl⟩ := hU7.cells
    have g1 := qfr 1
    obtain ⟨cs7, hr7⟩ := hU7.hR
    have hU8 := hU7.put 1 (.int .i64 (p3 : Nat)) (pos' := p3) (s' := s2) (cv' := PF C) (fun _ => rfl) rfl HP3.out.1 HP3.out.2
    obtain ⟨W8, hW8⟩ : ∃ W, x7.setCell ⟨k.R, 1, none⟩ (.int .i64 (p3 : Nat)) = W := ⟨_, rfl⟩
    have hD8 : RDecIs W8 hd b off cp LB (Rd.start LB) := by
      obtain ⟨x, y, h1, h2⟩ := H7.out.1
      have hRh := row_ne hr7 h2.blk (by decide)
      have hlow := hU7.low
      have hbl := HGOOD.out.2
      rw [← hW8]
      exact ⟨x, y, h1, h2.keep (by simp) (heap_setCell_other _ _ _ _ (fun e => hRh e.symm)) (heap_setCell_other _ _ _ _ (show b ≠ k.R by omega))⟩
    have hCS8 : CodS1 k.base W8 C s2 := by
      rw [← hW8]
      exact (HU.out.2.2.1.keep fun i _ _ _ hi _ => H7.out.2.1.block i (Array.getElem?_eq_some_iff.1 hi).1).keep fun i _ t _ hi ht => heap_setCell_other _ _ _ _ (row_ne hi hr7 (by rcases ht with rfl | rfl | rfl <;> decide))
    have h8s : W8.heap.size = x7.heap.size := by rw [← hW8]; simp
    rw [hW8] at hU8
    obtain ⟨RB, hRB⟩ : ∃ m, x7.heap.size = m := ⟨_, rfl⟩
    rw [hRB] at h8s
    obtain ⟨W9, hW9⟩ : ∃ W, W8.alloc (.cells #[PF hd, PF C] 71) = W := ⟨_, rfl⟩
    obtain ⟨Y, hRD, hYb, hYt⟩ := urd_make hCS8 HU.out.2.1 hD8 HGOOD.out.2 (Nat.le_trans (Nat.le_trans HU.out.1.bsz HU.out.1.below.size) H7.out.2.2) hW9
    rw [h8s] at hRD
    have hU9 := hU8.of_below (show Below W8.heap.size W8 W9 by rw [← hW9]; exact (Below.refl _ _).alloc (Nat.le_refl _) _)
    obtain ⟨v9, ⟨_, _, r2, r3, r4, _, _, _, _, _, _⟩, hov, hfr, hRl⟩ := hU9.cells
    obtain ⟨AO, cO, rfl, hcO, hmO, hBO⟩ := hov.read
    have hss := hU9.nums.2.2.2.2
    have hBH := hBO.cutFrom hss hcO
    obtain ⟨AH, hAH⟩ : ∃ AH, (if cO = s2.start then AO else AO.map (·.add s2.start)) = AH := ⟨_, rfl⟩
    rw [hAH] at hBH
    have hlen : (s2.out.drop s2.start).length = s2.out.length - s2.start := List.length_drop
    obtain ⟨hl, hhl⟩ : ∃ m, s2.out.length - s2.start = m := ⟨_, rfl⟩
    rw [hhl] at hlen
    obtain ⟨ca, hca⟩ : ∃ m, cO - s2.start = m := ⟨_, rfl⟩
    obtain ⟨RES, hRES⟩ : ∃ r, uread 0 0 0 LB s2.lc s2.lp s2.pb k.dict ((s2.out.drop s2.start).length + z) z (s2.out.drop s2.start) s2.st s2.r (s2.P, Rd.start LB) = r := ⟨_, rfl⟩
    have HRG := Lib.hid (HRF.out.trans (show undecode LB z k.dict p3 s2 = unmore LB (s2.out.drop s2.start).length p3 s2 RES by unfold undecode; rw [if_neg (by have := HGOOD.out.1.1; omega), if_neg (fun h => h HGOOD.out.1.2), hRES]))
    have hp' := of_decide_eq_true HU.out.2.2.2.1
    have hN6 : 2180 + 768 * 2 ^ (s2.lc + s2.lp) ≤ 1000000 := by
      have : 2 ^ (s2.lc + s2.lp) ≤ 2 ^ 4 := Nat.pow_le_pow_right (by decide) (by omega)
      omega
    have HUD : Hid (∀ W : World, Below W9.heap.size W9 W → Calls Try.prog 25 #[PF RB, .slice AH hl ca, .int .i64 (z : Nat), .int .i64 k.dict] W (fun e w' => RdrDone RB C k.base hd b off cp (2180 + 768 * 2 ^ (s2.lc + s2.lp)) LB s2.lc s2.lp s2.pb Y hl RES W e w' ∧ UmFine RES)) := Lib.hid (fun W hW => by
      have hrd := qread_big (gd := 0) (o := 0) (cap := 0) (hRD.below hW) ⟨Rd.start_ok HGOOD.out.1.1, by have := HLB.out.2.2.1; have := HN65.out; omega⟩ (by omega) (by omega) (by omega) HU.out.2.2.2.2.1 HU.out.2.2.2.2.2 AH (s2.out.drop s2.start) ca (hBH.below hW) (by omega) (by have := HT.out.2.2.2; omega) z (by have := HZ.out; omega) rfl hN6 k.dict HD.out.1 hRES
      rw [hlen] at hrd
      exact hrd)
    have HRES := Lib.hid hRES
    have hkY : k.R ∉ Y := by
      intro hm
      obtain ⟨cs, t, x, hc, ht⟩ := hYt _ hm
      obtain ⟨cs9, hr9⟩ := hU9.hR
      rw [hr9] at hc
      injection hc with hc
      injection hc with _ e _
      subst e
      revert ht; decide
    have HAFT : Hid (∀ W : World, Only Y W9.drew W → W.cell? ⟨k.R, 2, none⟩ = some (.int .i64 k.dict) ∧ W.cell? ⟨k.R, 3, none⟩ = some (.slice AO s2.out.length cO) ∧ W.cell? ⟨k.R, 4, none⟩ = some (.int .i64 (s2.start : Nat))) := Lib.hid (fun W hW => by
      have e := hW.block k.R hRl hkY
      exact ⟨(World.cell?_of_block (a := ⟨k.R, 2, none⟩) e).trans r2, (World.cell?_of_block (a := ⟨k.R, 3, none⟩) e).trans r3, (World.cell?_of_block (a := ⟨k.R, 4, none⟩) e).trans r4⟩)
    have hS0 : W9.drew.cell? ⟨k.R, 2, none⟩ = some (.int .i64 k.dict) ∧ W9.drew.cell? ⟨k.R, 3, none⟩ = some (.slice AO s2.out.length cO) ∧ W9.drew.cell? ⟨k.R, 4, none⟩ = some (.int .i64 (s2.start : Nat)) := ⟨r2, r3, r4⟩
    have HTH : Hid (∀ x : World, Only Y W9.drew x → RkB k x p3 s2 (PF C)) := Lib.hid (fun x hx => urk_through (hU9.of_below (drew_below W9)) hYb hYt hx)
    have hlong : ∀ q, RES = some q → q.1.length ≤ hl + z := fun q e => by have h1 := (uread_grow z _ _ _ _ (HRES.out.trans e)).2 (by omega); omega
    have HLONG := Lib.hid hlong
    have HAH := Lib.hid (And.intro hAH (And.intro hhl (And.intro hca hlen)))
    have HW8 := Lib.hid hW8
    have HW9 := Lib.hid hW9
    have HRB := Lib.hid hRB
    have hoi : (s2.out.length : Int) ≤ 400000000 := by have := HT.out.2.2.2; omega
    have hssi : (s2.start : Int) ≤ (s2.out.length : Int) := by omega
    have hcOi : (s2.out.length : Int) ≤ (cO : Int) := by omega
    have hcm : (cO : Int) ≤ 9223372036854775807 := by omega
    clear hU7 hbase qfr hr7 hU8 hW8 hD8 hCS8 h8s hRB hW9 hRD hYb hYt hU9 hov hfr hRl hcO hmO hBO hss hBH hAH hlen hhl hca hRES hp' hN6 hkY hlong r2 r3 r4 HRF
    go_upto_region 28 with fail
    rw [HW8.out, HW9.out, HRB.out]
    clear q1 q10 g1
    cases RES with
    | none =>
      refine wp_region_held_drew (S := fun W => W.cell? ⟨k.R, 2, none⟩ = some (.int .i64 k.dict) ∧ W.cell? ⟨k.R, 3, none⟩ = some (.slice AO s2.out.length cO) ∧ W.cell? ⟨k.R, 4, none⟩ = some (.int .i64 (s2.start : Nat))) (by kernel_rfl) hS0 (fun hS => ?_)
      refine tk 0 (v := ?vnn281) ?ynn281 hS ?_
      case ynn281 =>
        intro w hSw
        go_simp; all_goals (with_reducible rfl)
      simp only [Act.put, List.setIfInBounds_toArray, List.set_cons_zero, List.set_cons_succ]
      refine tk 1 (v := ?vnn282) ?ynn282 hS ?_
      case ynn282 =>
        intro w hSw
        go_simp; all_goals (with_reducible rfl)
      simp only [Act.put, List.setIfInBounds_toArray, List.set_cons_zero, List.set_cons_succ]
      refine tk 2 (v := ?vnn283) ?ynn283 hS ?_
      case ynn283 =>
        intro w hSw
        go_simp; all_goals (with_reducible rfl)
      simp only [Act.put, List.setIfInBounds_toArray, List.set_cons_zero, List.set_cons_succ]
      refine tk 3 (v := ?vnn284) ?ynn284 hS ?_
      case ynn284 =>
        intro w hSw
        go_simp; all_goals (with_reducible rfl)
      simp only [Act.put, List.setIfInBounds_toArray, List.set_cons_zero, List.set_cons_succ]
      refine tk 4 (v := ?vnn285) ?ynn285 hS ?_
      case ynn285 =>
        intro w hSw
        obtain ⟨q2, q3, q4⟩ := hSw
        go_simp; all_goals (with_reducible rfl)
      simp only [Act.put, List.setIfInBounds_toArray, List.set_cons_zero, List.set_cons_succ]
      refine tk 5 (v := ?vnn286) ?ynn286 hS ?_
      case ynn286 =>
        intro w hSw
        go_simp; all_goals (with_reducible rfl)
      simp only [Act.put, List.setIfInBounds_toArray, List.set_cons_zero, List.set_cons_succ]
      refine tk 6 (v := ?vnn287) ?ynn287 hS ?_
      case ynn287 =>
        intro w hSw
        go_simp; all_goals (with_reducible rfl)
      simp only [Act.put, List.setIfInBounds_toArray, List.set_cons_zero, List.set_cons_succ]
      refine tk 7 (v := ?vnn288) ?ynn288 hS ?_
      case ynn288 =>
        intro w hSw
        go_simp; all_goals (with_reducible rfl)
      simp only [Act.put, List.setIfInBounds_toArray, List.set_cons_zero, List.set_cons_succ]
      refine tk 8 (v := ?vnn289) ?ynn289 hS ?_
      case ynn289 =>
        intro w hSw
        obtain ⟨q2, q3, q4⟩ := hSw
        go_simp; all_goals (with_reducible rfl)
      simp only [Act.put, List.setIfInBounds_toArray, List.set_cons_zero, List.set_cons_succ]
      refine tk 9 (v := .slice AH hl ca) ?ynn290 hS ?_
      case ynn290 =>
        intro w hSw
        go_simp; exact ⟨HAH.out.1, HAH.out.2.1, HAH.out.2.2.1⟩
      simp only [Act.put, List.setIfInBounds_toArray, List.set_cons_zero, List.set_cons_succ]
      refine tk 10 (v := ?vnn291) ?ynn291 hS ?_
      case ynn291 =>
        intro w hSw
        go_simp; all_goals (with_reducible rfl)
      simp only [Act.put, List.setIfInBounds_toArray, List.set_cons_zero, List.set_cons_succ]
      refine tk 11 (v := ?vnn292) ?ynn292 hS ?_
      case ynn292 =>
        intro w hSw
        go_simp; all_goals (with_reducible rfl)
      simp only [Act.put, List.setIfInBounds_toArray, List.set_cons_zero, List.set_cons_succ]
      refine tk 12 (v := ?vnn293) ?ynn293 hS ?_
      case ynn293 =>
        intro w hSw
        go_simp; all_goals (with_reducible rfl)
      simp only [Act.put, List.setIfInBounds_toArray, List.set_cons_zero, List.set_cons_succ]
      refine tk 13 (v := ?vnn294) ?ynn294 hS ?_
      case ynn294 =>
        intro w hSw
        go_simp; all_goals (with_reducible rfl)
      simp only [Act.put, List.setIfInBounds_toArray, List.set_cons_zero, List.set_cons_succ]
      refine tk 14 (v := ?vnn295) ?ynn295 hS ?_
      case ynn295 =>
        intro w hSw
        obtain ⟨q2, q3, q4⟩ := hSw
        go_simp; all_goals (with_reducible rfl)
      simp only [Act.put, List.setIfInBounds_toArray, List.set_cons_zero, List.set_cons_succ]
      refine wpAnyH_ready (rs := [15]) (by kernel_rfl) (by simp) ?_
      refine (AllReadyH.cons (o := { dst := some 168, op := Op.call { callee := Callee.value (Operand.func 25), args := #[Operand.tmp 153, Operand.tmp 162, Operand.tmp 163, Operand.tmp 167], argTypes := #[69, 22, 3, 3] }, type := 72, pos := "ref.go:69", after := #[{ on := 0, ground := Ground.data }, { on := 9, ground := Ground.data }, { on := 10, ground := Ground.data }, { on := 14, ground := Ground.data }], guard := none }) rfl (fun K hK => ?_) AllReadyH.nil)
      go_simp
      refine (HUD.out _ (drew_below _)).mono ?_
      rintro e x19 ⟨⟨rfl, hon⟩, _⟩
      have g19 := HAFT.out _ hon
      have HON := Lib.hid hon
      clear hon
      go_wp2_with fail
      refine hK.out _ _ g19 (fun _ => ?_)
      clear hK K
      refine tk 16 (v := ?vnn296) ?ynn296 g19 ?_
      case ynn296 =>
        intro w hSw
        go_simp; all_goals (with_reducible rfl)
      simp only [Act.put, List.setIfInBounds_toArray, List.set_cons_zero, List.set_cons_succ]
      refine tk 17 (v := ?vnn297) ?ynn297 g19 ?_
      case ynn297 =>
        intro w hSw
        go_simp; all_goals (with_reducible rfl)
      simp only [Act.put, List.setIfInBounds_toArray, List.set_cons_zero, List.set_cons_succ]
      refine tk 18 (v := ?vnn298) ?ynn298 g19 ?_
      case ynn298 =>
        intro w hSw
        go_simp; all_goals (with_reducible rfl)
      simp only [Act.put, List.setIfInBounds_toArray, List.set_cons_zero, List.set_cons_succ]
      refine tk 19 (v := ?vnn299) ?ynn299 g19 ?_
      case ynn299 =>
        intro w hSw
        go_simp; all_goals (with_reducible rfl)
      simp only [Act.put, List.setIfInBounds_toArray, List.set_cons_zero, List.set_cons_succ]
      refine tk 20 (v := ?vnn300) ?ynn300 g19 ?_
      case ynn300 =>
        intro w hSw
        go_simp; all_goals (with_reducible rfl)
      simp only [Act.put, List.setIfInBounds_toArray, List.set_cons_zero, List.set_cons_succ]
      refine wpAnyH_done (by kernel_rfl) ?_ _
      clear hS hS0 HUD HAFT
      go_wp2_with fail
      go_ret
      rw [HRG.out]
      exact ⟨rfl, (HTH.out _ HON.out).below⟩
    | some q =>
      obtain ⟨T9, st9, r9, y9⟩ := q
      refine wp_region_held_drew (S := fun W => W.cell? ⟨k.R, 2, none⟩ = some (.int .i64 k.dict) ∧ W.cell? ⟨k.R, 3, none⟩ = some (.slice AO s2.out.length cO) ∧ W.cell? ⟨k.R, 4, none⟩ = some (.int .i64 (s2.start : Nat))) (by kernel_rfl) hS0 (fun hS => ?_)
      refine tk 0 (v := ?vns301) ?yns301 hS ?_
      case yns301 =>
        intro w hSw
        go_simp; all_goals (with_reducible rfl)
      simp only [Act.put, List.setIfInBounds_toArray, List.set_cons_zero, List.set_cons_succ]
      refine tk 1 (v := ?vns302) ?yns302 hS ?_
      case yns302 =>
        intro w hSw
        go_simp; all_goals (with_reducible rfl)
      simp only [Act.put, List.setIfInBounds_toArray, List.set_cons_zero, List.set_cons_succ]
      refine tk 2 (v := ?vns303) ?yns303 hS ?_
      case yns303 =>
        intro w hSw
        go_simp; all_goals (with_reducible rfl)
      simp only [Act.put, List.setIfInBounds_toArray, List.set_cons_zero, List.set_cons_succ]
      refine tk 3 (v := ?vns304) ?yns304 hS ?_
      case yns304 =>
        intro w hSw
        go_simp; all_goals (with_reducible rfl)
      simp only [Act.put, List.setIfInBounds_toArray, List.set_cons_zero, List.set_cons_succ]
      refine tk 4 (v := ?vns305) ?yns305 hS ?_
      case yns305 =>
        intro w hSw
        obtain ⟨q2, q3, q4⟩ := hSw
        go_simp; all_goals (with_reducible rfl)
      simp only [Act.put, List.setIfInBounds_toArray, List.set_cons_zero, List.set_cons_succ]
      refine tk 5 (v := ?vns306) ?yns306 hS ?_
      case yns306 =>
        intro w hSw
        go_simp; all_goals (with_reducible rfl)
      simp only [Act.put, List.setIfInBounds_toArray, List.set_cons_zero, List.set_cons_succ]
      refine tk 6 (v := ?vns307) ?yns307 hS ?_
      case yns307 =>
        intro w hSw
        go_simp; all_goals (with_reducible rfl)
      simp only [Act.put, List.setIfInBounds_toArray, List.set_cons_zero, List.set_cons_succ]
      refine tk 7 (v := ?vns308) ?yns308 hS ?_
      case yns308 =>
        intro w hSw
        go_simp; all_goals (with_reducible rfl)
      simp only [Act.put, List.setIfInBounds_toArray, List.set_cons_zero, List.set_cons_succ]
      refine tk 8 (v := ?vns309) ?yns309 hS ?_
      case yns309 =>
        intro w hSw
        obtain ⟨q2, q3, q4⟩ := hSw
        go_simp; all_goals (with_reducible rfl)
      simp only [Act.put, List.setIfInBounds_toArray, List.set_cons_zero, List.set_cons_succ]
      refine tk 9 (v := .slice AH hl ca) ?yns310 hS ?_
      case yns310 =>
        intro w hSw
        go_simp; exact ⟨HAH.out.1, HAH.out.2.1, HAH.out.2.2.1⟩
      simp only [Act.put, List.setIfInBounds_toArray, List.set_cons_zero, List.set_cons_succ]
      refine tk 10 (v := ?vns311) ?yns311 hS ?_
      case yns311 =>
        intro w hSw
        go_simp; all_goals (with_reducible rfl)
      simp only [Act.put, List.setIfInBounds_toArray, List.set_cons_zero, List.set_cons_succ]
      refine tk 11 (v := ?vns312) ?yns312 hS ?_
      case yns312 =>
        intro w hSw
        go_simp; all_goals (with_reducible rfl)
      simp only [Act.put, List.setIfInBounds_toArray, List.set_cons_zero, List.set_cons_succ]
      refine tk 12 (v := ?vns313) ?yns313 hS ?_
      case yns313 =>
        intro w hSw
        go_simp; all_goals (with_reducible rfl)
      simp only [Act.put, List.setIfInBounds_toArray, List.set_cons_zero, List.set_cons_succ]
      refine tk 13 (v := ?vns314) ?yns314 hS ?_
      case yns314 =>
        intro w hSw
        go_simp; all_goals (with_reducible rfl)
      simp only [Act.put, List.setIfInBounds_toArray, List.set_cons_zero, List.set_cons_succ]
      refine tk 14 (v := ?vns315) ?yns315 hS ?_
      case yns315 =>
        intro w hSw
        obtain ⟨q2, q3, q4⟩ := hSw
        go_simp; all_goals (with_reducible rfl)
      simp only [Act.put, List.setIfInBounds_toArray, List.set_cons_zero, List.set_cons_succ]
      refine wpAnyH_ready (rs := [15]) (by kernel_rfl) (by simp) ?_
      refine (AllReadyH.cons (o := { dst := some 168, op := Op.call { callee := Callee.value (Operand.func 25), args := #[Operand.tmp 153, Operand.tmp 162, Operand.tmp 163, Operand.tmp 167], argTypes := #[69, 22, 3, 3] }, type := 72, pos := "ref.go:69", after := #[{ on := 0, ground := Ground.data }, { on := 9, ground := Ground.data }, { on := 10, ground := Ground.data }, { on := 14, ground := Ground.data }], guard := none }) rfl (fun K hK => ?_) AllReadyH.nil)
      go_simp
      refine (HUD.out _ (drew_below _)).mono ?_
      rintro e x19 ⟨⟨A9, c9, rfl, hc9, hm9, hB9, Y9, hM9, hon⟩, hfine⟩
      have g19 := HAFT.out _ hon
      have HON := Lib.hid hon
      have H9 := Lib.hid (And.intro hB9 (And.intro hM9 (hfine _ rfl)))
      clear hon hB9 hM9 hfine
      go_wp2_with fail
      refine hK.out _ _ g19 (fun _ => ?_)
      clear hK K
      refine tk 16 (v := ?vns316) ?yns316 g19 ?_
      case yns316 =>
        intro w hSw
        go_simp; all_goals (with_reducible rfl)
      simp only [Act.put, List.setIfInBounds_toArray, List.set_cons_zero, List.set_cons_succ]
      refine tk 17 (v := ?vns317) ?yns317 g19 ?_
      case yns317 =>
        intro w hSw
        go_simp; all_goals (with_reducible rfl)
      simp only [Act.put, List.setIfInBounds_toArray, List.set_cons_zero, List.set_cons_succ]
      refine tk 18 (v := ?vns318) ?yns318 g19 ?_
      case yns318 =>
        intro w hSw
        go_simp; all_goals (with_reducible rfl)
      simp only [Act.put, List.setIfInBounds_toArray, List.set_cons_zero, List.set_cons_succ]
      refine tk 19 (v := ?vns319) ?yns319 g19 ?_
      case yns319 =>
        intro w hSw
        go_simp; all_goals (with_reducible rfl)
      simp only [Act.put, List.setIfInBounds_toArray, List.set_cons_zero, List.set_cons_succ]
      refine tk 20 (v := ?vns320) ?yns320 g19 ?_
      case yns320 =>
        intro w hSw
        go_simp; all_goals (with_reducible rfl)
      simp only [Act.put, List.setIfInBounds_toArray, List.set_cons_zero, List.set_cons_succ]
      refine wpAnyH_done (by kernel_rfl) ?_ _
      clear hS hS0 HUD HAFT
      have HDN := Lib.hid (rddone_any hd b off cp LB y9.2 x19 (urd_back H9.out.2.1 []).2)
      have hm19 : T9.length - hl ≤ 4000000 := by have h1 : T9.length ≤ hl + z := HLONG.out _ rfl; have := HZ.out; omega
      have HM19 := Lib.hid hm19
      clear hm19
      cases hdn : y9.2.done LB with
      | false =>
        rw [hdn] at HDN
        have HRH := Lib.hid (HRG.out.trans (show unmore LB (s2.out.drop s2.start).length p3 s2 (some (T9, st9, r9, y9)) = .bad 6 by unfold unmore; exact if_neg (by rw [hdn]; decide)))
        go_wp2_with fail
        refine HDN.out.mono ?_
        rintro e x20 ⟨rfl, hb20⟩
        go_wp2_with fail
        go_ret
        rw [HRH.out]
        exact ⟨rfl, ((HTH.out _ HON.out).of_below hb20).below⟩
      | true =>
        rw [hdn] at HDN
        have HRH := Lib.hid (HRG.out.trans (show unmore LB (s2.out.drop s2.start).length p3 s2 (some (T9, st9, r9, y9)) = .go p3 { s2 with out := s2.out ++ T9.drop hl, st := st9, r := r9, P := y9.1 } by unfold unmore; rw [HAH.out.2.2.2]; exact if_pos hdn))
        clear hdn
        go_wp2_with fail
        refine HDN.out.mono ?_
        rintro e x20 ⟨rfl, hb20⟩
        have hU20 := (HTH.out _ HON.out).of_below hb20
        have hM20 := (urd_back H9.out.2.1 (s2.out ++ T9.drop hl)).1.keep (fun i _ _ _ hi _ => hb20.block i (Array.getElem?_eq_some_iff.1 hi).1)
        obtain ⟨vo, ⟨_, _, _, r3, _, _, _, _, _, _, _⟩, hov, hfr, hRl⟩ := hU20.cells
        obtain ⟨AO2, cO2, rfl, hcO2, hmO2, hBO2⟩ := hov.read
        have hGA : Below x20.heap.size x20 (x20.alloc (.cells #[] 5)) := (Below.refl _ _).alloc (Nat.le_refl _) _
        have hA3 := (hGA.cell (p := ⟨k.R, 3, none⟩) hRl).trans r3
        have HX := Lib.hid (And.intro hU20 (And.intro hM20 (And.intro hBO2 (And.intro (H9.out.1.below hb20) hGA))))
        have HR3 : Hid ((∀ W : World, Below x20.heap.size x20 W → W.cell? ⟨k.R, 3, none⟩ = some (.slice AO2 s2.out.length cO2)) ∧ ∀ W : World, Below x20.heap.size x20 W → W.frozen? ⟨k.R, 3, none⟩ = false) := Lib.hid ⟨fun W hW => (hW.cell (p := ⟨k.R, 3, none⟩) hRl).trans r3, fun W hW => (hW.frozen (p := ⟨k.R, 3, none⟩) hRl).trans (hfr 3)⟩
        have HCO2 := Lib.hid (show CodR k.base x20 (PF C) { s2 with out := s2.out ++ T9.drop hl, st := st9, r := r9, P := y9.1 } from fun _ _ => ⟨C, rfl, HU.out.2.1, hM20, HU.out.2.2.2.1, H9.out.2.2.1, H9.out.2.2.2⟩)
        clear hU20 hM20 hov hfr hBO2 hGA hb20 hcO2 hmO2
        go_upto_region 31 with fail
        go_wp2_with (first
          | (at_builtin; refine wpList_append_bytes rfl (.tmp 179) (.tmp 183) rfl x20.heap.size (x20.alloc (.cells #[] 5)) (.slice (some ⟨x20.heap.size, 0, none⟩) 0 0) [] rfl (empty_own x20) AO2 s2.out cO2 rfl (HX.out.2.2.1.below HX.out.2.2.2.2) (by have := HT.out.2.2.2; simp; omega) HX.out.2.2.2.2.size ?_; intro v7 w7 ho7 hg7; have H10 := Lib.hid (And.intro (show Own x20.heap.size w7 v7 s2.out from ho7) (below_grown HX.out.2.2.2.2 hg7 HX.out.2.2.2.2.size (fun g e => ((empty_own x20).from_base g e).1))); clear ho7 hg7)
          | (at_builtin; refine wpList_append_bytes rfl (.tmp 184) (.tmp 185) rfl x20.heap.size w7 v7 s2.out rfl H10.out.1 A9 (T9.drop hl) c9 (by rw [List.length_drop]; rfl) (HX.out.2.2.2.1.below H10.out.2) (by have := HT.out.2.2.2; have := HM19.out; rw [List.length_drop]; omega) H10.out.2.size ?_; intro v8 w8 ho8 hg8; obtain ⟨A8, n8, c8, e8⟩ := ho8.shape; subst e8; have H11 := Lib.hid (And.intro ho8 (below_grown H10.out.2 hg8 H10.out.2.size (fun g e => (H10.out.1.from_base g e).1))); have hc8 := HR3.out.1 w8 H11.out.2; have hf8 := HR3.out.2 w8 H11.out.2; clear ho8 hg8))
        go_ret
        rw [HRH.out]
        have hU21 := HX.out.1.of_below H11.out.2
        obtain ⟨cs21, hr21⟩ := hU21.hR
        have u1 := hU21.putOut (H11.out.1.weaken (Nat.le_trans HX.out.1.bsz HX.out.1.below.size)) (by rw [List.length_append]; exact Nat.le_add_right _ _)
        exact ⟨rfl, PF C, u1.same (fun _ => rfl) rfl rfl, (HCO2.out.of_below H11.out.2).set (p := ⟨k.R, 3, none⟩) hr21 _⟩
end Go.Proofs.Ytkckjjchfccdjaa
