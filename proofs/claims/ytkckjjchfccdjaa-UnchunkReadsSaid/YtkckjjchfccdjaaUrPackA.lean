/- The document's Reader: a packed chunk. -/
import Derived.Test.YtkckjjchfccdjaaMg1
import Derived.Test.YtkckjjchfccdjaaMg27
namespace Go.Proofs.Ytkckjjchfccdjaa
set_option maxRecDepth 100000
open Go.RowKit

set_option maxHeartbeats 16000000 in
theorem urunpack_A {k : RkP} {w : World} {pos : Nat} {s : CkS} (h : Rk k w pos s) (c : Nat) (hc1 : 128 ≤ c) (hc2 : c < 256) (hcl : s.clear = true) (hca : ¬ (c < 192 ∧ s.asked = true)) (ho : s.out.length ≤ 400000000) (hd1 : 1 ≤ k.dict) (hd2 : k.dict ≤ 9223372036854775807) (h1 : ¬ k.B.length < pos + 4) (h160 : c < 160) :
    Calls Try.prog 14 #[PF k.R, .int .i64 (c : Nat)] w (RkDone k (unpackC k.B k.dict c pos s)) := by
  have hused := And.intro hcl ho
  clear hused
  have HK := Lib.hid h
  have HD := Lib.hid (And.intro hd1 hd2)
  have hci : (c : Int) < 256 := by omega
  have hci0 : (128 : Int) ≤ (c : Int) := by omega
  obtain ⟨cv, hU, hC⟩ := h
  obtain ⟨v, ⟨_, _, _, _, _, _, a6, _, _, _, _⟩, _, _, _⟩ := hU.cells
  have ha6 : (c : Int) < 192 → s.asked = false := fun h => by
    cases hq : s.asked with
    | false => rfl
    | true => exact absurd ⟨by omega, hq⟩ hca
  have HH := Lib.hid (urhas_any HK.out 4)
  obtain ⟨u, hu⟩ : ∃ u, ckTwo k.B pos = u := ⟨_, rfl⟩
  obtain ⟨t, ht⟩ : ∃ t, ckTwo k.B (pos + 2) = t := ⟨_, rfl⟩
  have hul : u < 65536 := by rw [← hu]; exact ckTwo_lt _ _
  have htl : t < 65536 := by rw [← ht]; exact ckTwo_lt _ _
  obtain ⟨n, hn⟩ : ∃ n, t + 1 = n := ⟨_, rfl⟩
  obtain ⟨m0, hm0⟩ : ∃ m, 65536 * (c % 32) = m := ⟨_, rfl⟩
  obtain ⟨z, hz⟩ : ∃ z, m0 + u + 1 = z := ⟨_, rfl⟩
  obtain ⟨pp, hpp⟩ : ∃ p, pos + 4 = p := ⟨_, rfl⟩
  have hti : (t : Int) + 1 = (n : Int) := by omega
  have hni : (n : Int) ≤ 65536 := by omega
  have hmi : 65536 * ((c : Int) % 32) = (m0 : Int) := by omega
  have hzi : (m0 : Int) + (u : Int) + 1 = (z : Int) := by omega
  have hzb : (z : Int) ≤ 4000000 := by omega
  have hui : (u : Int) < 65536 := by omega
  have hm0i : (m0 : Int) ≤ 3000000 := by omega
  have HZ := Lib.hid (show z ≤ 4000000 by omega)
  have HN65 := Lib.hid (show n ≤ 65536 by omega)
  have h192 : c < 192 := by omega
  have has : s.asked = false := ha6 (by omega)
  rw [has] at a6
  have g192 : decide ((c : Int) < 192) = true := decide_eq_true (by omega)
  have g192b : decide ((192 : Int) ≤ (c : Int)) = false := decide_eq_false (by omega)
  rw [decide_eq_true (show pos + 4 ≤ k.B.length by omega)] at HH
  have hunp : unpackC k.B k.dict c pos s = ((unprops c k.B pp s).then (unnew c)).then (unbytes k.B n z k.dict) := by unfold unpackC; rw [if_neg h1, hu, ht, hn, hm0, hz, hpp]
  have HNUM := Lib.hid (And.intro hu (And.intro ht (And.intro hpp h1)))
  have hpr : unprops c k.B pp s = .go pp s := by unfold unprops; exact if_pos h192
  have HR0 := Lib.hid (hunp.trans (show _ = unbytes k.B n z k.dict pp s by rw [hpr, show (CkR.go pp s).then (unnew c) = unnew c pp s from rfl, show unnew c pp s = .go pp s by unfold unnew; exact if_pos h160]; rfl))
  have g160 : decide ((160 : Int) ≤ (c : Int)) = false := decide_eq_false (by omega)
  have HSF := Lib.hid (And.intro hcl (And.intro has ho))
  clear hU hC ha6 hu ht hul htl hn hm0 hz hpp h192 has h1 hc1 hc2 hcl hca ho hd1 hd2 hunp hpr h160
  go_enter Try.func14, Try.ntmps14
  go_wp2_with fail
  refine HH.out.mono ?_
  rintro e w1 ⟨rfl, hb1⟩
  have HTW1 := Lib.hid (urtwo_any (HK.out.of_below hb1) (by have := HNUM.out; omega))
  rw [HNUM.out.1] at HTW1
  clear hb1
  go_wp2_with fail
  refine HTW1.out.mono ?_
  rintro e w2 ⟨rfl, hk2⟩
  have HTW2 := Lib.hid (urtwo_any hk2 (by have := HNUM.out; omega))
  rw [HNUM.out.2.1, show pos + 2 + 2 = pp by have := HNUM.out; omega] at HTW2
  clear hk2
  go_wp2_with fail
  refine HTW2.out.mono ?_
  rintro e w3 ⟨rfl, hk3⟩
  have HK3 := Lib.hid hk3
  clear hk3
  obtain ⟨s2, hs2⟩ : ∃ x, s = x := ⟨_, rfl⟩
  obtain ⟨pp2, hpp2⟩ : ∃ x, pp = x := ⟨_, rfl⟩
  have HR : Hid (unpackC k.B k.dict c pos s = unbytes k.B n z k.dict pp2 s2) := Lib.hid (by rw [← hpp2, ← hs2]; exact HR0.out)
  have HT : Hid (Rk k w3 pp2 s2 ∧ s2.clear = true ∧ s2.asked = false ∧ s2.out.length ≤ 400000000) := Lib.hid (by rw [← hpp2, ← hs2]; exact ⟨HK3.out, HSF.out⟩)
  clear hpp2 hs2 HR0 HNUM HK3 a6
  go_upto_region 21 with fail
  have HH3 := Lib.hid (urhas_any HT.out.1 n)
  by_cases h3 : k.B.length < pp2 + n
  · rw [decide_eq_false (show ¬ pp2 + n ≤ k.B.length by omega)] at HH3
    have HRF := Lib.hid (HR.out.trans (show unbytes k.B n z k.dict pp2 s2 = .bad 2 by unfold unbytes; exact if_pos h3))
    clear h3
    go_wp2_with fail
    refine HH3.out.mono ?_
    rintro e w5 ⟨rfl, hb5⟩
    go_wp2_with fail
    go_ret
    rw [HRF.out]
    exact ⟨rfl, (HT.out.1.of_below hb5).below⟩
  rw [decide_eq_true (show pp2 + n ≤ k.B.length by omega)] at HH3
  obtain ⟨LB, hLB⟩ : ∃ l, (k.B.drop pp2).take n = l := ⟨_, rfl⟩
  obtain ⟨p3, hp3⟩ : ∃ m, pp2 + n = m := ⟨_, rfl⟩
  have HRF := Lib.hid (HR.out.trans (show unbytes k.B n z k.dict pp2 s2 = undecode LB z k.dict p3 s2 by unfold unbytes; rw [if_neg h3, hLB, hp3]))
  have hlen : LB.length = n := by rw [← hLB]; simp; omega
  have HLB := Lib.hid (And.intro hLB (And.intro hp3 (And.intro hlen h3)))
  clear hLB hp3 hlen h3 HR
  go_wp2_with fail
  refine HH3.out.mono ?_
  rintro e w5 ⟨rfl, hb5⟩
  obtain ⟨cv, hU, hC⟩ := HT.out.1.of_below hb5
  obtain ⟨C, rfl, hCb, hCS, hperm, hst, hrg⟩ := hC HT.out.2.1 HT.out.2.2.1
  obtain ⟨v, ⟨r0, r1, _, _, _, _, _, _, _, _, _⟩, _, hfr, hRl⟩ := hU.cells
  obtain ⟨n1, n2, n3, n4, n5⟩ := hU.nums
  have hcut := (hU.bytes.1.cutFrom (k := pp2) n4 n1).take n
  rw [HLB.out.1] at hcut
  obtain ⟨AP, hAP⟩ : ∃ AP, (if k.c = pp2 then k.A else k.A.map (·.add pp2)) = AP := ⟨_, rfl⟩
  rw [hAP] at hcut
  obtain ⟨cp, hcp⟩ : ∃ m, k.c - pp2 = m := ⟨_, rfl⟩
  have hl2 := HLB.out.2.1
  have hl3 := HLB.out.2.2.2
  have hdiff : p3 - pp2 = n := by omega
  have hcl : ∀ a, AP = some a → a.block < k.base := by
    intro a ha
    rw [← hAP] at ha
    split at ha
    · exact hU.bytes.2 a ha
    · cases hA : k.A with
      | none => rw [hA] at ha; cases ha
      | some a' =>
        rw [hA] at ha
        have e : a'.add pp2 = a := by simpa using ha
        rw [← e]; exact (show (a'.add pp2).block = a'.block from by unfold Addr.add; split <;> rfl) ▸ hU.bytes.2 a' hA
  have HAP := Lib.hid (And.intro hAP (And.intro hdiff hcp))
  have HSK : Hid (∀ W : World, Below w5.heap.size w5 W → W.cell? ⟨k.R, 0, none⟩ = some (.slice k.A k.B.length k.c) ∧ W.cell? ⟨k.R, 1, none⟩ = some (.int .i64 (pp2 : Nat))) := Lib.hid (fun W hW => ⟨(hW.cell (p := ⟨k.R, 0, none⟩) hRl).trans r0, (hW.cell (p := ⟨k.R, 1, none⟩) hRl).trans r1⟩)
  have hS0 := HSK.out w5.drew (drew_below w5)
  have f1 : w5.drew.frozen? ⟨k.R, 1, none⟩ = false := hfr 1
  have HU := Lib.hid (And.intro hU (And.intro hCb (And.intro hCS (And.intro hperm (And.intro hst hrg)))))
  have HCUT := Lib.hid (And.intro hcut hcl)
  have hp3i : (pp2 : Int) + (n : Int) = (p3 : Int) := by omega
  have hpp3 : (pp2 : Int) ≤ (p3 : Int) := by omega
  have hp3L : (p3 : Int) ≤ (k.B.length : Int) := by omega
  have hLc : (k.B.length : Int) ≤ (k.c : Int) := by omega
  have hci2 : (k.c : Int) ≤ 9223372036854775807 := by omega
  have hLi : (k.B.length : Int) ≤ 140737488355328 := by omega
  have hw3 : IntKind.i64.wrap (p3 : Int) = (p3 : Int) := IntWalk.i64_in _ (by omega)
  have hp3c : p3 ≤ k.c := by omega
  have hpp3n : pp2 ≤ p3 := by omega
  have HP3 := Lib.hid (show p3 ≤ k.B.length ∧ s2.start ≤ s2.out.length by omega)
  clear hU hC hCb hCS hperm hst hrg hfr n1 n2 n3 n4 n5 hcut hAP hcp hdiff hcl hl2 hl3 hb5 r0 r1
  by_cases hgood : 5 ≤ LB.length ∧ LB.getD 0 0 = 0
  case neg =>
    obtain ⟨m, hm, hN⟩ : ∃ m : Int, m ≠ 0 ∧ ∀ W : World, Below w5.heap.size w5 W → Calls Try.prog 24 #[.slice AP LB.length cp] W (RNone W m) := by
      by_cases h5 : LB.length < 5
      · exact ⟨2, by decide, fun W _ => rdnew_short AP LB cp W h5⟩
      · exact ⟨6, by decide, fun W hW => rdnew_bad AP LB cp W (HCUT.out.1.below hW) (by omega) (fun h0 => hgood ⟨by omega, h0⟩)⟩
    rw [HLB.out.2.2.1] at hN
    have HRG := Lib.hid (HRF.out.trans (show undecode LB z k.dict p3 s2 = .bad 6 by
      unfold undecode
      by_cases h5 : LB.length < 5
      · rw [if_pos h5]
      · rw [if_neg h5, if_pos (fun h0 => hgood ⟨by omega, h0⟩)]))
    have hmb : (m == 0) = false := beq_eq_false_iff_ne.2 hm
    have hmb2 : (m != 0) = true := by rw [bne_iff_ne]; exact hm
    clear hgood HRF
    go_upto_region 23 with fail
    refine wp_region_held_drew (S := fun W => W.cell? ⟨k.R, 0, none⟩ = some (.slice k.A k.B.length k.c) ∧ W.cell? ⟨k.R, 1, none⟩ = some (.int .i64 (pp2 : Nat))) (by kernel_rfl) hS0 (fun hS => ?_)
    refine tk 0 (v := ?vne146) ?yne146 hS ?_
    case yne146 =>
      intro w hSw
      go_simp; all_goals (with_reducible rfl)
    simp only [Act.put, List.setIfInBounds_toArray, List.set_cons_zero, List.set_cons_succ]
    refine tk 1 (v := ?vne147) ?yne147 hS ?_
    case yne147 =>
      intro w hSw
      go_simp; all_goals (with_reducible rfl)
    simp only [Act.put, List.setIfInBounds_toArray, List.set_cons_zero, List.set_cons_succ]
    refine tk 2 (v := ?vne148) ?yne148 hS ?_
    case yne148 =>
      intro w hSw
      go_simp; all_goals (with_reducible rfl)
    simp only [Act.put, List.setIfInBounds_toArray, List.set_cons_zero, List.set_cons_succ]
    refine tk 3 (v := ?vne149) ?yne149 hS ?_
    case yne149 =>
      intro w hSw
      obtain ⟨q0, q1⟩ := hSw
      go_simp; all_goals (with_reducible rfl)
    simp only [Act.put, List.setIfInBounds_toArray, List.set_cons_zero, List.set_cons_succ]
    refine tk 4 (v := ?vne150) ?yne150 hS ?_
    case yne150 =>
      intro w hSw
      go_simp; all_goals (with_reducible rfl)
    simp only [Act.put, List.setIfInBounds_toArray, List.set_cons_zero, List.set_cons_succ]
    refine tk 5 (v := ?vne151) ?yne151 hS ?_
    case yne151 =>
      intro w hSw
      go_simp; all_goals (with_reducible rfl)
    simp only [Act.put, List.setIfInBounds_toArray, List.set_cons_zero, List.set_cons_succ]
    refine tk 6 (v := ?vne152) ?yne152 hS ?_
    case yne152 =>
      intro w hSw
      go_simp; all_goals (with_reducible rfl)
    simp only [Act.put, List.setIfInBounds_toArray, List.set_cons_zero, List.set_cons_succ]
    refine tk 7 (v := ?vne153) ?yne153 hS ?_
    case yne153 =>
      intro w hSw
      obtain ⟨q0, q1⟩ := hSw
      go_simp; all_goals (with_reducible rfl)
    simp only [Act.put, List.setIfInBounds_toArray, List.set_cons_zero, List.set_cons_succ]
    refine tk 8 (v := ?vne154) ?yne154 hS ?_
    case yne154 =>
      intro w hSw
      go_simp; all_goals (with_reducible rfl)
    simp only [Act.put, List.setIfInBounds_toArray, List.set_cons_zero, List.set_cons_succ]
    refine tk 9 (v := ?vne155) ?yne155 hS ?_
    case yne155 =>
      intro w hSw
      go_simp; all_goals (with_reducible rfl)
    simp only [Act.put, List.setIfInBounds_toArray, List.set_cons_zero, List.set_cons_succ]
    refine tk 10 (v := ?vne156) ?yne156 hS ?_
    case yne156 =>
      intro w hSw
      go_simp; all_goals (with_reducible rfl)
    simp only [Act.put, List.setIfInBounds_toArray, List.set_cons_zero, List.set_cons_succ]
    refine tk 11 (v := ?vne157) ?yne157 hS ?_
    case yne157 =>
      intro w hSw
      obtain ⟨q0, q1⟩ := hSw
      go_simp; all_goals (with_reducible rfl)
    simp only [Act.put, List.setIfInBounds_toArray, List.set_cons_zero, List.set_cons_succ]
    refine tk 12 (v := ?vne158) ?yne158 hS ?_
    case yne158 =>
      intro w hSw
      go_simp; all_goals (with_reducible rfl)
    simp only [Act.put, List.setIfInBounds_toArray, List.set_cons_zero, List.set_cons_succ]
    refine tk 13 (v := ?vne159) ?yne159 hS ?_
    case yne159 =>
      intro w hSw
      go_simp; all_goals (with_reducible rfl)
    simp only [Act.put, List.setIfInBounds_toArray, List.set_cons_zero, List.set_cons_succ]
    refine tk 14 (v := .slice AP n cp) ?yne160 hS ?_
    case yne160 =>
      intro w hSw
      go_simp; exact ⟨HAP.out.1, HAP.out.2.1, HAP.out.2.2⟩
    simp only [Act.put, List.setIfInBounds_toArray, List.set_cons_zero, List.set_cons_succ]
    refine wpAnyH_ready (rs := [15]) (by kernel_rfl) (by simp) ?_
    refine (AllReadyH.cons (o := { dst := some 131, op := Op.call { callee := Callee.value (Operand.func 24), args := #[Operand.tmp 130], argTypes := #[22] }, type := 67, pos := "ref.go:63", after := #[{ on := 14, ground := Ground.data }], guard := none }) rfl (fun K hK => ?_) AllReadyH.nil)
    go_simp
    refine (hN _ (drew_below w5)).mono ?_
    rintro e x7 ⟨rfl, ex⟩
    subst ex
    have g7 := hS
    go_wp2_with fail
    refine hK.out _ _ g7 (fun _ => ?_)
    clear hK K
    refine tk 16 (v := ?vne161) ?yne161 g7 ?_
    case yne161 =>
      intro w hSw
      go_simp; all_goals (with_reducible rfl)
    simp only [Act.put, List.setIfInBounds_toArray, List.set_cons_zero, List.set_cons_succ]
    refine tk 17 (v := ?vne162) ?yne162 g7 ?_
    case yne162 =>
      intro w hSw
      go_simp; all_goals (with_reducible rfl)
    simp only [Act.put, List.setIfInBounds_toArray, List.set_cons_zero, List.set_cons_succ]
    refine tk 18 (v := ?vne163) ?yne163 g7 ?_
    case yne163 =>
      intro w hSw
      go_simp; all_goals (with_reducible rfl)
    simp only [Act.put, List.setIfInBounds_toArray, List.set_cons_zero, List.set_cons_succ]
    refine tk 19 (v := ?vne164) ?yne164 g7 ?_
    case yne164 =>
      intro w hSw
      go_simp; all_goals (with_reducible rfl)
    simp only [Act.put, List.setIfInBounds_toArray, List.set_cons_zero, List.set_cons_succ]
    refine tk 20 (v := ?vne165) ?yne165 g7 ?_
    case yne165 =>
      intro w hSw
      go_simp; all_goals (with_reducible rfl)
    simp only [Act.put, List.setIfInBounds_toArray, List.set_cons_zero, List.set_cons_succ]
    refine wpAnyH_done (by kernel_rfl) ?_ _
    obtain ⟨_, q1⟩ := hS0
    clear hS hN
    go_wp2_with fail
    go_ret
    rw [HRG.out]
    exact ⟨rfl, ((HU.out.1.of_below (drew_below w5)).below).setCell (p := ⟨k.R, 1, none⟩) HU.out.1.low _⟩
  case pos =>
    obtain ⟨b, off, eAP, hbl, _⟩ := HCUT.out.1.addr (show 0 < LB.length by omega)
    have hblow : b < k.base := HCUT.out.2 _ eAP
    have HNW : Hid (∀ W : World, Below w5.heap.size w5 W → Calls Try.prog 24 #[.slice AP LB.length cp] W (RSome W b off cp LB)) := Lib.hid (fun W hW => by
      have h0 := HCUT.out.1.below hW
      rw [eAP] at h0 ⊢
      exact rdnew_good b off LB cp W h0 hgood.1 hgood.2)
    rw [HLB.out.2.2.1] at HNW
    have HGOOD := Lib.hid (And.intro hgood hblow)
    clear hbl hblow hgood eAP
    go_upto_region 23 with fail
    refine wp_region_held_drew (S := fun W => W.cell? ⟨k.R, 0, none⟩ = some (.slice k.A k.B.length k.c) ∧ W.cell? ⟨k.R, 1, none⟩ = some (.int .i64 (pp2 : Nat))) (by kernel_rfl) hS0 (fun hS => ?_)
    refine tk 0 (v := ?vpo166) ?ypo166 hS ?_
    case ypo166 =>
      intro w hSw
      go_simp; all_goals (with_reducible rfl)
    simp only [Act.put, List.setIfInBounds_toArray, List.set_cons_zero, List.set_cons_succ]
    refine tk 1 (v := ?vpo167) ?ypo167 hS ?_
    case ypo167 =>
      intro w hSw
      go_simp; all_goals (with_reducible rfl)
    simp only [Act.put, List.setIfInBounds_toArray, List.set_cons_zero, List.set_cons_succ]
    refine tk 2 (v := ?vpo168) ?ypo168 hS ?_
    case ypo168 =>
      intro w hSw
      go_simp; all_goals (with_reducible rfl)
    simp only [Act.put, List.setIfInBounds_toArray, List.set_cons_zero, List.set_cons_succ]
    refine tk 3 (v := ?vpo169) ?ypo169 hS ?_
    case ypo169 =>
      intro w hSw
      obtain ⟨q0, q1⟩ := hSw
      go_simp; all_goals (with_reducible rfl)
    simp only [Act.put, List.setIfInBounds_toArray, List.set_cons_zero, List.set_cons_succ]
    refine tk 4 (v := ?vpo170) ?ypo170 hS ?_
    case ypo170 =>
      intro w hSw
      go_simp; all_goals (with_reducible rfl)
    simp only [Act.put, List.setIfInBounds_toArray, List.set_cons_zero, List.set_cons_succ]
    refine tk 5 (v := ?vpo171) ?ypo171 hS ?_
    case ypo171 =>
      intro w hSw
      go_simp; all_goals (with_reducible rfl)
    simp only [Act.put, List.setIfInBounds_toArray, List.set_cons_zero, List.set_cons_succ]
    refine tk 6 (v := ?vpo172) ?ypo172 hS ?_
    case ypo172 =>
      intro w hSw
      go_simp; all_goals (with_reducible rfl)
    simp only [Act.put, List.setIfInBounds_toArray, List.set_cons_zero, List.set_cons_succ]
    refine tk 7 (v := ?vpo173) ?ypo173 hS ?_
    case ypo173 =>
      intro w hSw
      obtain ⟨q0, q1⟩ := hSw
      go_simp; all_goals (with_reducible rfl)
    simp only [Act.put, List.setIfInBounds_toArray, List.set_cons_zero, List.set_cons_succ]
    refine tk 8 (v := ?vpo174) ?ypo174 hS ?_
    case ypo174 =>
      intro w hSw
      go_simp; all_goals (with_reducible rfl)
    simp only [Act.put, List.setIfInBounds_toArray, List.set_cons_zero, List.set_cons_succ]
    refine tk 9 (v := ?vpo175) ?ypo175 hS ?_
    case ypo175 =>
      intro w hSw
      go_simp; all_goals (with_reducible rfl)
    simp only [Act.put, List.setIfInBounds_toArray, List.set_cons_zero, List.set_cons_succ]
    refine tk 10 (v := ?vpo176) ?ypo176 hS ?_
    case ypo176 =>
      intro w hSw
      go_simp; all_goals (with_reducible rfl)
    simp only [Act.put, List.setIfInBounds_toArray, List.set_cons_zero, List.set_cons_succ]
    refine tk 11 (v := ?vpo177) ?ypo177 hS ?_
    case ypo177 =>
      intro w hSw
      obtain ⟨q0, q1⟩ := hSw
      go_simp; all_goals (with_reducible rfl)
    simp only [Act.put, List.setIfInBounds_toArray, List.set_cons_zero, List.set_cons_succ]
    refine tk 12 (v := ?vpo178) ?ypo178 hS ?_
    case ypo178 =>
      intro w hSw
      go_simp; all_goals (with_reducible rfl)
    simp only [Act.put, List.setIfInBounds_toArray, List.set_cons_zero, List.set_cons_succ]
    refine tk 13 (v := ?vpo179) ?ypo179 hS ?_
    case ypo179 =>
      intro w hSw
      go_simp; all_goals (with_reducible rfl)
    simp only [Act.put, List.setIfInBounds_toArray, List.set_cons_zero, List.set_cons_succ]
    refine tk 14 (v := .slice AP n cp) ?ypo180 hS ?_
    case ypo180 =>
      intro w hSw
      go_simp; exact ⟨HAP.out.1, HAP.out.2.1, HAP.out.2.2⟩
    simp only [Act.put, List.setIfInBounds_toArray, List.set_cons_zero, List.set_cons_succ]
    refine wpAnyH_ready (rs := [15]) (by kernel_rfl) (by simp) ?_
    refine (AllReadyH.cons (o := { dst := some 131, op := Op.call { callee := Callee.value (Operand.func 24), args := #[Operand.tmp 130], argTypes := #[22] }, type := 67, pos := "ref.go:63", after := #[{ on := 14, ground := Ground.data }], guard := none }) rfl (fun K hK => ?_) AllReadyH.nil)
    go_simp
    refine (HNW.out _ (drew_below w5)).mono ?_
    rintro e x7 ⟨hd, rfl, hD7, hb7, hh7⟩
    have g7 := HSK.out x7 ((drew_below w5).trans hb7)
    have H7 := Lib.hid (And.intro hD7 (And.intro ((drew_below w5).trans hb7) hh7))
    clear hD7 hb7 hh7
    go_wp2_with fail
    refine hK.out _ _ g7 (fun _ => ?_)
    clear hK K
    refine tk 16 (v := ?vpo181) ?ypo181 g7 ?_
    case ypo181 =>
      intro w hSw
      go_simp; all_goals (with_reducible rfl)
    simp only [Act.put, List.setIfInBounds_toArray, List.set_cons_zero, List.set_cons_succ]
    refine tk 17 (v := ?vpo182) ?ypo182 g7 ?_
    case ypo182 =>
      intro w hSw
      go_simp; all_goals (with_reducible rfl)
    simp only [Act.put, List.setIfInBounds_toArray, List.set_cons_zero, List.set_cons_succ]
    refine tk 18 (v := ?vpo183) ?ypo183 g7 ?_
    case ypo183 =>
      intro w hSw
      go_simp; all_goals (with_reducible rfl)
    simp only [Act.put, List.setIfInBounds_toArray, List.set_cons_zero, List.set_cons_succ]
    refine tk 19 (v := ?vpo184) ?ypo184 g7 ?_
    case ypo184 =>
      intro w hSw
      go_simp; all_goals (with_reducible rfl)
    simp only [Act.put, List.setIfInBounds_toArray, List.set_cons_zero, List.set_cons_succ]
    refine tk 20 (v := ?vpo185) ?ypo185 g7 ?_
    case ypo185 =>
      intro w hSw
      go_simp; all_goals (with_reducible rfl)
    simp only [Act.put, List.setIfInBounds_toArray, List.set_cons_zero, List.set_cons_succ]
    refine wpAnyH_done (by kernel_rfl) ?_ _
    clear hS hS0 HNW
    obtain ⟨_, q1⟩ := g7
    have hU7 := HU.out.1.of_below H7.out.2.1
    have hbase := Nat.le_trans hU7.bsz hU7.below.size
    obtain ⟨_, ⟨_, _, _, _, _, _, _, _, _, _, q10⟩, _, qfr, qRl⟩ := hU7.cells
    have g1 := qfr 1
    obtain ⟨cs7, hr7⟩ := hU7.hR
    have hU8 := hU7.put 1 (.int .i64 (p3 : Nat)) (pos' := p3) (s' := s2) (cv' := PF C) (fun _ => rfl) rfl HP3.out.1 HP3.out.2
    obtain ⟨W8, hW8⟩ : ∃ W, x7.setCell ⟨k.R, 1, none⟩ (.int .i64 (p3 : Nat)) = W := ⟨_, rfl⟩
    have hD8 : RDecIs W8 hd b off cp LB (Rd.start LB) := by
      obtain ⟨x, y, h1, h2⟩ := H7.out.1
      have hRh := row_ne hr7 h2.blk (by decide)
      have hlow := hU7.low
      have hbl := HGOOD.out.2
      rw [← hW8]
      exact ⟨x, y, h1, h2.keep (by simp) (heap_setCell_other _ _ _ _ (fun e => hRh e.symm)) (heap_setCell_other _ _ _ _ (show b ≠ k.R by omega))⟩
    have hCS8 : CodS1 k.base W8 C s2 := by
      rw [← hW8]
      exact (HU.out.2.2.1.keep fun i _ _ _ hi _ => H7.out.2.1.block i (Array.getElem?_eq_some_iff.1 hi).1).keep fun i _ t _ hi ht => heap_setCell_other _ _ _ _ (row_ne hi hr7 (by rcases ht with rfl | rfl | rfl <;> decide))
    have h8s : W8.heap.size = x7.heap.size := by rw [← hW8]; simp
    rw [hW8] at hU8
    obtain ⟨RB, hRB⟩ : ∃ m, x7.heap.size = m := ⟨_, rfl⟩
    rw [hRB] at h8s
    obtain ⟨W9, hW9⟩ : ∃ W, W8.alloc (.cells #[PF hd, PF C] 71) = W := ⟨_, rfl⟩
    obtain ⟨Y, hRD, hYb, hYt⟩ := urd_make hCS8 HU.out.2.1 hD8 HGOOD.out.2 (Nat.le_trans (Nat.le_trans HU.out.1.bsz HU.out.1.below.size) H7.out.2.2) hW9
    rw [h8s] at hRD
    have hU9 := hU8.of_below (show Below W8.heap.size W8 W9 by rw [← hW9]; exact (Below.refl _ _).alloc (Nat.le_refl _) _)
    obtain ⟨v9, ⟨_, _, r2, r3, r4, _, _, _, _, _, _⟩, hov, hfr, hRl⟩ := hU9.cells
    obtain ⟨AO, cO, rfl, hcO, hmO, hBO⟩ := hov.read
    have hss := hU9.nums.2.2.2.2
    have hBH := hBO.cutFrom hss hcO
    obtain ⟨AH, hAH⟩ : ∃ AH, (if cO = s2.start then AO else AO.map (·.add s2.start)) = AH := ⟨_, rfl⟩
    rw [hAH] at hBH
    have hlen : (s2.out.drop s2.start).length = s2.out.length - s2.start := List.length_drop
    obtain ⟨hl, hhl⟩ : ∃ m, s2.out.length - s2.start = m := ⟨_, rfl⟩
    rw [hhl] at hlen
    obtain ⟨ca, hca⟩ : ∃ m, cO - s2.start = m := ⟨_, rfl⟩
    obtain ⟨RES, hRES⟩ : ∃ r, uread 0 0 0 LB s2.lc s2.lp s2.pb k.dict ((s2.out.drop s2.start).length + z) z (s2.out.drop s2.start) s2.st s2.r (s2.P, Rd.start LB) = r := ⟨_, rfl⟩
    have HRG := Lib.hid (HRF.out.trans (show undecode LB z k.dict p3 s2 = unmore LB (s2.out.drop s2.start).length p3 s2 RES by unfold undecode; rw [if_neg (by have := HGOOD.out.1.1; omega), if_neg (fun h => h HGOOD.out.1.2), hRES]))
    have hp' := of_decide_eq_true HU.out.2.2.2.1
    have hN6 : 2180 + 768 * 2 ^ (s2.lc + s2.lp) ≤ 1000000 := by
      have : 2 ^ (s2.lc + s2.lp) ≤ 2 ^ 4 := Nat.pow_le_pow_right (by decide) (by omega)
      omega
    have HUD : Hid (∀ W : World, Below W9.heap.size W9 W → Calls Try.prog 25 #[PF RB, .slice AH hl ca, .int .i64 (z : Nat), .int .i64 k.dict] W (fun e w' => RdrDone RB C k.base hd b off cp (2180 + 768 * 2 ^ (s2.lc + s2.lp)) LB s2.lc s2.lp s2.pb Y hl RES W e w' ∧ UmFine RES)) := Lib.hid (fun W hW => by
      have hrd := qread_big (gd := 0) (o := 0) (cap := 0) (hRD.below hW) ⟨Rd.start_ok HGOOD.out.1.1, by have := HLB.out.2.2.1; have := HN65.out; omega⟩ (by omega) (by omega) (by omega) HU.out.2.2.2.2.1 HU.out.2.2.2.2.2 AH (s2.out.drop s2.start) ca (hBH.below hW) (by omega) (by have := HT.out.2.2.2; omega) z (by have := HZ.out; omega) rfl hN6 k.dict HD.out.1 hRES
      rw [hlen] at hrd
      exact hrd)
    have HRES := Lib.hid hRES
    have hkY : k.R ∉ Y := by
      intro hm
      obtain ⟨cs, t, x, hc, ht⟩ := hYt _ hm
      obtain ⟨cs9, hr9⟩ := hU9.hR
      rw [hr9] at hc
      injection hc with hc
      injection hc with _ e _
      subst e
      revert ht; decide
    have HAFT : Hid (∀ W : World, Only Y W9.drew W → W.cell? ⟨k.R, 2, none⟩ = some (.int .i64 k.dict) ∧ W.cell? ⟨k.R, 3, none⟩ = some (.slice AO s2.out.length cO) ∧ W.cell? ⟨k.R, 4, none⟩ = some (.int .i64 (s2.start : Nat))) := Lib.hid (fun W hW => by
      have e := hW.block k.R hRl hkY
      exact ⟨(World.cell?_of_block (a := ⟨k.R, 2, none⟩) e).trans r2, (World.cell?_of_block (a := ⟨k.R, 3, none⟩) e).trans r3, (World.cell?_of_block (a := ⟨k.R, 4, none⟩) e).trans r4⟩)
    have hS0 : W9.drew.cell? ⟨k.R, 2, none⟩ = some (.int .i64 k.dict) ∧ W9.drew.cell? ⟨k.R, 3, none⟩ = some (.slice AO s2.out.length cO) ∧ W9.drew.cell? ⟨k.R, 4, none⟩ = some (.int .i64 (s2.start : Nat)) := ⟨r2, r3, r4⟩
    have HTH : Hid (∀ x : World, Only Y W9.drew x → RkB k x p3 s2 (PF C)) := Lib.hid (fun x hx => urk_through (hU9.of_below (drew_below W9)) hYb hYt hx)
    have hlong : ∀ q, RES = some q → q.1.length ≤ hl + z := fun q e => by have h1 := (uread_grow z _ _ _ _ (HRES.out.trans e)).2 (by omega); omega
    have HLONG := Lib.hid hlong
    have HAH := Lib.hid (And.intro hAH (And.intro hhl (And.intro hca hlen)))
    have HW8 := Lib.hid hW8
    have HW9 := Lib.hid hW9
    have HRB := Lib.hid hRB
    have hoi : (s2.out.length : Int) ≤ 400000000 := by have := HT.out.2.2.2; omega
    have hssi : (s2.start : Int) ≤ (s2.out.length : Int) := by omega
    have hcOi : (s2.out.length : Int) ≤ (cO : Int) := by omega
    have hcm : (cO : Int) ≤ 9223372036854775807 := by omega
    clear hU7 hbase qfr hr7 hU8 hW8 hD8 hCS8 h8s hRB hW9 hRD hYb hYt hU9 hov hfr hRl hcO hmO hBO hss hBH hAH hlen hhl hca hRES hp' hN6 hkY hlong r2 r3 r4 HRF
    go_upto_region 28 with fail
    rw [HW8.out, HW9.out, HRB.out]
    clear q1 q10 g1
    cases RES with
    | none =>
      refine wp_region_held_drew (S := fun W => W.cell? ⟨k.R, 2, none⟩ = some (.int .i64 k.dict) ∧ W.cell? ⟨k.R, 3, none⟩ = some (.slice AO s2.out.length cO) ∧ W.cell? ⟨k.R, 4, none⟩ = some (.int .i64 (s2.start : Nat))) (by kernel_rfl) hS0 (fun hS => ?_)
      refine tk 0 (v := ?vnn186) ?ynn186 hS ?_
      case ynn186 =>
        intro w hSw
        go_simp; all_goals (with_reducible rfl)
      simp only [Act.put, List.setIfInBounds_toArray, List.set_cons_zero, List.set_cons_succ]
      refine tk 1 (v := ?vnn187) ?ynn187 hS ?_
      case ynn187 =>
        intro w hSw
        go_simp; all_goals (with_reducible rfl)
      simp only [Act.put, List.setIfInBounds_toArray, List.set_cons_zero, List.set_cons_succ]
      refine tk 2 (v := ?vnn188) ?ynn188 hS ?_
      case ynn188 =>
        intro w hSw
        go_simp; all_goals (with_reducible rfl)
      simp only [Act.put, List.setIfInBounds_toArray, List.set_cons_zero, List.set_cons_succ]
      refine tk 3 (v := ?vnn189) ?ynn189 hS ?_
      case ynn189 =>
        intro w hSw
        go_simp; all_goals (with_reducible rfl)
      simp only [Act.put, List.setIfInBounds_toArray, List.set_cons_zero, List.set_cons_succ]
      refine tk 4 (v := ?vnn190) ?ynn190 hS ?_
      case ynn190 =>
        intro w hSw
        obtain ⟨q2, q3, q4⟩ := hSw
        go_simp; all_goals (with_reducible rfl)
      simp only [Act.put, List.setIfInBounds_toArray, List.set_cons_zero, List.set_cons_succ]
      refine tk 5 (v := ?vnn191) ?ynn191 hS ?_
      case ynn191 =>
        intro w hSw
        go_simp; all_goals (with_reducible rfl)
      simp only [Act.put, List.setIfInBounds_toArray, List.set_cons_zero, List.set_cons_succ]
      refine tk 6 (v := ?vnn192) ?ynn192 hS ?_
      case ynn192 =>
        intro w hSw
        go_simp; all_goals (with_reducible rfl)
      simp only [Act.put, List.setIfInBounds_toArray, List.set_cons_zero, List.set_cons_succ]
      refine tk 7 (v := ?vnn193) ?ynn193 hS ?_
      case ynn193 =>
        intro w hSw
        go_simp; all_goals (with_reducible rfl)
      simp only [Act.put, List.setIfInBounds_toArray, List.set_cons_zero, List.set_cons_succ]
      refine tk 8 (v := ?vnn194) ?ynn194 hS ?_
      case ynn194 =>
        intro w hSw
        obtain ⟨q2, q3, q4⟩ := hSw
        go_simp; all_goals (with_reducible rfl)
      simp only [Act.put, List.setIfInBounds_toArray, List.set_cons_zero, List.set_cons_succ]
      refine tk 9 (v := .slice AH hl ca) ?ynn195 hS ?_
      case ynn195 =>
        intro w hSw
        go_simp; exact ⟨HAH.out.1, HAH.out.2.1, HAH.out.2.2.1⟩
      simp only [Act.put, List.setIfInBounds_toArray, List.set_cons_zero, List.set_cons_succ]
      refine tk 10 (v := ?vnn196) ?ynn196 hS ?_
      case ynn196 =>
        intro w hSw
        go_simp; all_goals (with_reducible rfl)
      simp only [Act.put, List.setIfInBounds_toArray, List.set_cons_zero, List.set_cons_succ]
      refine tk 11 (v := ?vnn197) ?ynn197 hS ?_
      case ynn197 =>
        intro w hSw
        go_simp; all_goals (with_reducible rfl)
      simp only [Act.put, List.setIfInBounds_toArray, List.set_cons_zero, List.set_cons_succ]
      refine tk 12 (v := ?vnn198) ?ynn198 hS ?_
      case ynn198 =>
        intro w hSw
        go_simp; all_goals (with_reducible rfl)
      simp only [Act.put, List.setIfInBounds_toArray, List.set_cons_zero, List.set_cons_succ]
      refine tk 13 (v := ?vnn199) ?ynn199 hS ?_
      case ynn199 =>
        intro w hSw
        go_simp; all_goals (with_reducible rfl)
      simp only [Act.put, List.setIfInBounds_toArray, List.set_cons_zero, List.set_cons_succ]
      refine tk 14 (v := ?vnn200) ?ynn200 hS ?_
      case ynn200 =>
        intro w hSw
        obtain ⟨q2, q3, q4⟩ := hSw
        go_simp; all_goals (with_reducible rfl)
      simp only [Act.put, List.setIfInBounds_toArray, List.set_cons_zero, List.set_cons_succ]
      refine wpAnyH_ready (rs := [15]) (by kernel_rfl) (by simp) ?_
      refine (AllReadyH.cons (o := { dst := some 168, op := Op.call { callee := Callee.value (Operand.func 25), args := #[Operand.tmp 153, Operand.tmp 162, Operand.tmp 163, Operand.tmp 167], argTypes := #[69, 22, 3, 3] }, type := 72, pos := "ref.go:69", after := #[{ on := 0, ground := Ground.data }, { on := 9, ground := Ground.data }, { on := 10, ground := Ground.data }, { on := 14, ground := Ground.data }], guard := none }) rfl (fun K hK => ?_) AllReadyH.nil)
      go_simp
      refine (HUD.out _ (drew_below _)).mono ?_
      rintro e x19 ⟨⟨rfl, hon⟩, _⟩
      have g19 := HAFT.out _ hon
      have HON := Lib.hid hon
      clear hon
      go_wp2_with fail
      refine hK.out _ _ g19 (fun _ => ?_)
      clear hK K
      refine tk 16 (v := ?vnn201) ?ynn201 g19 ?_
      case ynn201 =>
        intro w hSw
        go_simp; all_goals (with_reducible rfl)
      simp only [Act.put, List.setIfInBounds_toArray, List.set_cons_zero, List.set_cons_succ]
      refine tk 17 (v := ?vnn202) ?ynn202 g19 ?_
      case ynn202 =>
        intro w hSw
        go_simp; all_goals (with_reducible rfl)
      simp only [Act.put, List.setIfInBounds_toArray, List.set_cons_zero, List.set_cons_succ]
      refine tk 18 (v := ?vnn203) ?ynn203 g19 ?_
      case ynn203 =>
        intro w hSw
        go_simp; all_goals (with_reducible rfl)
      simp only [Act.put, List.setIfInBounds_toArray, List.set_cons_zero, List.set_cons_succ]
      refine tk 19 (v := ?vnn204) ?ynn204 g19 ?_
      case ynn204 =>
        intro w hSw
        go_simp; all_goals (with_reducible rfl)
      simp only [Act.put, List.setIfInBounds_toArray, List.set_cons_zero, List.set_cons_succ]
      refine tk 20 (v := ?vnn205) ?ynn205 g19 ?_
      case ynn205 =>
        intro w hSw
        go_simp; all_goals (with_reducible rfl)
      simp only [Act.put, List.setIfInBounds_toArray, List.set_cons_zero, List.set_cons_succ]
      refine wpAnyH_done (by kernel_rfl) ?_ _
      clear hS hS0 HUD HAFT
      go_wp2_with fail
      go_ret
      rw [HRG.out]
      exact ⟨rfl, (HTH.out _ HON.out).below⟩
    | some q =>
      obtain ⟨T9, st9, r9, y9⟩ := q
      refine wp_region_held_drew (S := fun W => W.cell? ⟨k.R, 2, none⟩ = some (.int .i64 k.dict) ∧ W.cell? ⟨k.R, 3, none⟩ = some (.slice AO s2.out.length cO) ∧ W.cell? ⟨k.R, 4, none⟩ = some (.int .i64 (s2.start : Nat))) (by kernel_rfl) hS0 (fun hS => ?_)
      refine tk 0 (v := ?vns206) ?yns206 hS ?_
      case yns206 =>
        intro w hSw
        go_simp; all_goals (with_reducible rfl)
      simp only [Act.put, List.setIfInBounds_toArray, List.set_cons_zero, List.set_cons_succ]
      refine tk 1 (v := ?vns207) ?yns207 hS ?_
      case yns207 =>
        intro w hSw
        go_simp; all_goals (with_reducible rfl)
      simp only [Act.put, List.setIfInBounds_toArray, List.set_cons_zero, List.set_cons_succ]
      refine tk 2 (v := ?vns208) ?yns208 hS ?_
      case yns208 =>
        intro w hSw
        go_simp; all_goals (with_reducible rfl)
      simp only [Act.put, List.setIfInBounds_toArray, List.set_cons_zero, List.set_cons_succ]
      refine tk 3 (v := ?vns209) ?yns209 hS ?_
      case yns209 =>
        intro w hSw
        go_simp; all_goals (with_reducible rfl)
      simp only [Act.put, List.setIfInBounds_toArray, List.set_cons_zero, List.set_cons_succ]
      refine tk 4 (v := ?vns210) ?yns210 hS ?_
      case yns210 =>
        intro w hSw
        obtain ⟨q2, q3, q4⟩ := hSw
        go_simp; all_goals (with_reducible rfl)
      simp only [Act.put, List.setIfInBounds_toArray, List.set_cons_zero, List.set_cons_succ]
      refine tk 5 (v := ?vns211) ?yns211 hS ?_
      case yns211 =>
        intro w hSw
        go_simp; all_goals (with_reducible rfl)
      simp only [Act.put, List.setIfInBounds_toArray, List.set_cons_zero, List.set_cons_succ]
      refine tk 6 (v := ?vns212) ?yns212 hS ?_
      case yns212 =>
        intro w hSw
        go_simp; all_goals (with_reducible rfl)
      simp only [Act.put, List.setIfInBounds_toArray, List.set_cons_zero, List.set_cons_succ]
      refine tk 7 (v := ?vns213) ?yns213 hS ?_
      case yns213 =>
        intro w hSw
        go_simp; all_goals (with_reducible rfl)
      simp only [Act.put, List.setIfInBounds_toArray, List.set_cons_zero, List.set_cons_succ]
      refine tk 8 (v := ?vns214) ?yns214 hS ?_
      case yns214 =>
        intro w hSw
        obtain ⟨q2, q3, q4⟩ := hSw
        go_simp; all_goals (with_reducible rfl)
      simp only [Act.put, List.setIfInBounds_toArray, List.set_cons_zero, List.set_cons_succ]
      refine tk 9 (v := .slice AH hl ca) ?yns215 hS ?_
      case yns215 =>
        intro w hSw
        go_simp; exact ⟨HAH.out.1, HAH.out.2.1, HAH.out.2.2.1⟩
      simp only [Act.put, List.setIfInBounds_toArray, List.set_cons_zero, List.set_cons_succ]
      refine tk 10 (v := ?vns216) ?yns216 hS ?_
      case yns216 =>
        intro w hSw
        go_simp; all_goals (with_reducible rfl)
      simp only [Act.put, List.setIfInBounds_toArray, List.set_cons_zero, List.set_cons_succ]
      refine tk 11 (v := ?vns217) ?yns217 hS ?_
      case yns217 =>
        intro w hSw
        go_simp; all_goals (with_reducible rfl)
      simp only [Act.put, List.setIfInBounds_toArray, List.set_cons_zero, List.set_cons_succ]
      refine tk 12 (v := ?vns218) ?yns218 hS ?_
      case yns218 =>
        intro w hSw
        go_simp; all_goals (with_reducible rfl)
      simp only [Act.put, List.setIfInBounds_toArray, List.set_cons_zero, List.set_cons_succ]
      refine tk 13 (v := ?vns219) ?yns219 hS ?_
      case yns219 =>
        intro w hSw
        go_simp; all_goals (with_reducible rfl)
      simp only [Act.put, List.setIfInBounds_toArray, List.set_cons_zero, List.set_cons_succ]
      refine tk 14 (v := ?vns220) ?yns220 hS ?_
      case yns220 =>
        intro w hSw
        obtain ⟨q2, q3, q4⟩ := hSw
        go_simp; all_goals (with_reducible rfl)
      simp only [Act.put, List.setIfInBounds_toArray, List.set_cons_zero, List.set_cons_succ]
      refine wpAnyH_ready (rs := [15]) (by kernel_rfl) (by simp) ?_
      refine (AllReadyH.cons (o := { dst := some 168, op := Op.call { callee := Callee.value (Operand.func 25), args := #[Operand.tmp 153, Operand.tmp 162, Operand.tmp 163, Operand.tmp 167], argTypes := #[69, 22, 3, 3] }, type := 72, pos := "ref.go:69", after := #[{ on := 0, ground := Ground.data }, { on := 9, ground := Ground.data }, { on := 10, ground := Ground.data }, { on := 14, ground := Ground.data }], guard := none }) rfl (fun K hK => ?_) AllReadyH.nil)
      go_simp
      refine (HUD.out _ (drew_below _)).mono ?_
      rintro e x19 ⟨⟨A9, c9, rfl, hc9, hm9, hB9, Y9, hM9, hon⟩, hfine⟩
      have g19 := HAFT.out _ hon
      have HON := Lib.hid hon
      have H9 := Lib.hid (And.intro hB9 (And.intro hM9 (hfine _ rfl)))
      clear hon hB9 hM9 hfine
      go_wp2_with fail
      refine hK.out _ _ g19 (fun _ => ?_)
      clear hK K
      refine tk 16 (v := ?vns221) ?yns221 g19 ?_
      case yns221 =>
        intro w hSw
        go_simp; all_goals (with_reducible rfl)
      simp only [Act.put, List.setIfInBounds_toArray, List.set_cons_zero, List.set_cons_succ]
      refine tk 17 (v := ?vns222) ?yns222 g19 ?_
      case yns222 =>
        intro w hSw
        go_simp; all_goals (with_reducible rfl)
      simp only [Act.put, List.setIfInBounds_toArray, List.set_cons_zero, List.set_cons_succ]
      refine tk 18 (v := ?vns223) ?yns223 g19 ?_
      case yns223 =>
        intro w hSw
        go_simp; all_goals (with_reducible rfl)
      simp only [Act.put, List.setIfInBounds_toArray, List.set_cons_zero, List.set_cons_succ]
      refine tk 19 (v := ?vns224) ?yns224 g19 ?_
      case yns224 =>
        intro w hSw
        go_simp; all_goals (with_reducible rfl)
      simp only [Act.put, List.setIfInBounds_toArray, List.set_cons_zero, List.set_cons_succ]
      refine tk 20 (v := ?vns225) ?yns225 g19 ?_
      case yns225 =>
        intro w hSw
        go_simp; all_goals (with_reducible rfl)
      simp only [Act.put, List.setIfInBounds_toArray, List.set_cons_zero, List.set_cons_succ]
      refine wpAnyH_done (by kernel_rfl) ?_ _
      clear hS hS0 HUD HAFT
      have HDN := Lib.hid (rddone_any hd b off cp LB y9.2 x19 (urd_back H9.out.2.1 []).2)
      have hm19 : T9.length - hl ≤ 4000000 := by have h1 : T9.length ≤ hl + z := HLONG.out _ rfl; have := HZ.out; omega
      have HM19 := Lib.hid hm19
      clear hm19
      cases hdn : y9.2.done LB with
      | false =>
        rw [hdn] at HDN
        have HRH := Lib.hid (HRG.out.trans (show unmore LB (s2.out.drop s2.start).length p3 s2 (some (T9, st9, r9, y9)) = .bad 6 by unfold unmore; exact if_neg (by rw [hdn]; decide)))
        go_wp2_with fail
        refine HDN.out.mono ?_
        rintro e x20 ⟨rfl, hb20⟩
        go_wp2_with fail
        go_ret
        rw [HRH.out]
        exact ⟨rfl, ((HTH.out _ HON.out).of_below hb20).below⟩
      | true =>
        rw [hdn] at HDN
        have HRH := Lib.hid (HRG.out.trans (show unmore LB (s2.out.drop s2.start).length p3 s2 (some (T9, st9, r9, y9)) = .go p3 { s2 with out := s2.out ++ T9.drop hl, st := st9, r := r9, P := y9.1 } by unfold unmore; rw [HAH.out.2.2.2]; exact if_pos hdn))
        clear hdn
        go_wp2_with fail
        refine HDN.out.mono ?_
        rintro e x20 ⟨rfl, hb20⟩
        have hU20 := (HTH.out _ HON.out).of_below hb20
        have hM20 := (urd_back H9.out.2.1 (s2.out ++ T9.drop hl)).1.keep (fun i _ _ _ hi _ => hb20.block i (Array.getElem?_eq_some_iff.1 hi).1)
        obtain ⟨vo, ⟨_, _, _, r3, _, _, _, _, _, _, _⟩, hov, hfr, hRl⟩ := hU20.cells
        obtain ⟨AO2, cO2, rfl, hcO2, hmO2, hBO2⟩ := hov.read
        have hGA : Below x20.heap.size x20 (x20.alloc (.cells #[] 5)) := (Below.refl _ _).alloc (Nat.le_refl _) _
        have hA3 := (hGA.cell (p := ⟨k.R, 3, none⟩) hRl).trans r3
        have HX := Lib.hid (And.intro hU20 (And.intro hM20 (And.intro hBO2 (And.intro (H9.out.1.below hb20) hGA))))
        have HR3 : Hid ((∀ W : World, Below x20.heap.size x20 W → W.cell? ⟨k.R, 3, none⟩ = some (.slice AO2 s2.out.length cO2)) ∧ ∀ W : World, Below x20.heap.size x20 W → W.frozen? ⟨k.R, 3, none⟩ = false) := Lib.hid ⟨fun W hW => (hW.cell (p := ⟨k.R, 3, none⟩) hRl).trans r3, fun W hW => (hW.frozen (p := ⟨k.R, 3, none⟩) hRl).trans (hfr 3)⟩
        have HCO2 := Lib.hid (show CodR k.base x20 (PF C) { s2 with out := s2.out ++ T9.drop hl, st := st9, r := r9, P := y9.1 } from fun _ _ => ⟨C, rfl, HU.out.2.1, hM20, HU.out.2.2.2.1, H9.out.2.2.1, H9.out.2.2.2⟩)
        clear hU20 hM20 hov hfr hBO2 hGA hb20 hcO2 hmO2
        go_upto_region 31 with fail
        go_wp2_with (first
          | (at_builtin; refine wpList_append_bytes rfl (.tmp 179) (.tmp 183) rfl x20.heap.size (x20.alloc (.cells #[] 5)) (.slice (some ⟨x20.heap.size, 0, none⟩) 0 0) [] rfl (empty_own x20) AO2 s2.out cO2 rfl (HX.out.2.2.1.below HX.out.2.2.2.2) (by have := HT.out.2.2.2; simp; omega) HX.out.2.2.2.2.size ?_; intro v7 w7 ho7 hg7; have H10 := Lib.hid (And.intro (show Own x20.heap.size w7 v7 s2.out from ho7) (below_grown HX.out.2.2.2.2 hg7 HX.out.2.2.2.2.size (fun g e => ((empty_own x20).from_base g e).1))); clear ho7 hg7)
          | (at_builtin; refine wpList_append_bytes rfl (.tmp 184) (.tmp 185) rfl x20.heap.size w7 v7 s2.out rfl H10.out.1 A9 (T9.drop hl) c9 (by rw [List.length_drop]; rfl) (HX.out.2.2.2.1.below H10.out.2) (by have := HT.out.2.2.2; have := HM19.out; rw [List.length_drop]; omega) H10.out.2.size ?_; intro v8 w8 ho8 hg8; obtain ⟨A8, n8, c8, e8⟩ := ho8.shape; subst e8; have H11 := Lib.hid (And.intro ho8 (below_grown H10.out.2 hg8 H10.out.2.size (fun g e => (H10.out.1.from_base g e).1))); have hc8 := HR3.out.1 w8 H11.out.2; have hf8 := HR3.out.2 w8 H11.out.2; clear ho8 hg8))
        go_ret
        rw [HRH.out]
        have hU21 := HX.out.1.of_below H11.out.2
        obtain ⟨cs21, hr21⟩ := hU21.hR
        have u1 := hU21.putOut (H11.out.1.weaken (Nat.le_trans HX.out.1.bsz HX.out.1.below.size)) (by rw [List.length_append]; exact Nat.le_add_right _ _)
        exact ⟨rfl, PF C, u1.same (fun _ => rfl) rfl rfl, (HCO2.out.of_below H11.out.2).set (p := ⟨k.R, 3, none⟩) hr21 _⟩
end Go.Proofs.Ytkckjjchfccdjaa
