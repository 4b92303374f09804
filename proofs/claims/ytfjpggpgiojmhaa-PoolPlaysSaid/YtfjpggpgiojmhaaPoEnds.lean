/- The contract of the law PoolEnds. -/
import Derived.Test.YtfjpggpgiojmhaaPoKnows
import Derived.Deep.DeepCutAuto
namespace Go.Proofs.Ytfjpggpgiojmhaa
open Go.RowKit

theorem fair_nat {j n r : Int} (h : fairB j n r = true) : ∃ J N R : Nat, j = (J : Int) ∧ n = (N : Int) ∧ r = (R : Int) ∧ J ≤ 10000 ∧ 1 ≤ N ∧ N ≤ 64 ∧ 1 ≤ R ∧ R ≤ 64 := by
  simp only [fairB, withinB, Bool.and_eq_true, decide_eq_true_eq] at h
  exact ⟨j.toNat, n.toNat, r.toNat, by omega, by omega, by omega, by omega, by omega, by omega, by omega, by omega⟩
set_option maxRecDepth 100000 in
set_option maxHeartbeats 4000000 in
theorem ends_law (j n r : Int) (A : Option Addr) (l : List UInt8) (c : Nat) (w : World) (lo0 : -9223372036854775808 ≤ j) (hi0 : j ≤ 9223372036854775807) (lo1 : -9223372036854775808 ≤ n) (hi1 : n ≤ 9223372036854775807) (lo2 : -9223372036854775808 ≤ r) (hi2 : r ≤ 9223372036854775807) (hB : Bytes w A l) (hc : l.length ≤ c) (hm : c ≤ 9223372036854775807) :
    Calls Try.prog 4 #[.int .i64 j, .int .i64 n, .int .i64 r, .slice A l.length c] w (Holds w) := by
  have HFA := Lib.hid (fair_any j n r w)
  by_cases h60 : 60 < j
  · go_enter Try.func4, Try.ntmps4
    go_wp2_with fail
    refine (knows_any _).mono ?_
    rintro e w' ⟨rfl, hb⟩
    go_wp2_with fail
    go_ret
    exact ⟨rfl, hb⟩
  cases hf : fairB j n r with
  | false =>
    rw [hf] at HFA
    clear hf
    go_enter Try.func4, Try.ntmps4
    go_wp2_with fail
    refine HFA.out.mono ?_
    rintro e w' ⟨rfl, rfl⟩
    go_wp2_with fail
    refine (knows_any _).mono ?_
    rintro e w' ⟨rfl, hb⟩
    go_wp2_with fail
    go_ret
    exact ⟨rfl, hb⟩
  | true =>
  rw [hf] at HFA
  have HNE := Lib.hid (New_any j n r w)
  obtain ⟨J, N, R, rfl, rfl, rfl, hJ, hN1, hN2, hR1, hR2⟩ := fair_nat hf
  have HI0 := Lib.hid (fresh_inv J N R hJ ⟨hN1, hN2⟩ ⟨hR1, hR2⟩)
  have hJ60 : J ≤ 60 := by omega
  have hJi : (J : Int) ≤ 60 := by omega
  have hNi : (N : Int) ≤ 64 := by omega
  have hRi : (R : Int) ≤ 64 := by omega
  have HBY := Lib.hid hB
  have HCC := Lib.hid (And.intro hc hm)
  clear lo0 hi0 lo1 hi1 lo2 hi2 hB hc hm h60
  go_enter Try.func4, Try.ntmps4
  go_wp2_with fail
  refine HFA.out.mono ?_
  rintro e w' ⟨rfl, rfl⟩
  go_wp2_with fail
  refine HNE.out.mono ?_
  rintro e w1 ⟨hb1, ⟨h, _⟩ | ⟨_, B, hb, mb, rfl, hP, hB1, hB2, hB3⟩⟩
  · rw [hf] at h; cases h
  simp only [Int.toNat_natCast] at hP
  have HP0 := Lib.hid hP
  have HB1 := Lib.hid hb1
  clear hf hP hb1 HFA HNE
  go_wp2_with fail
  go_loopw [11] (fun i wr => ∃ (t : Nat) (P : PoolM), t ≤ 4 * J ∧ i = .int .i64 (t : Nat) ∧ Hid (PoolAt wr B hb mb P) ∧ Hid P.Inv ∧ Hid (P.J = J ∧ P.R = R ∧ P.held.length = N) ∧ Hid (P.steps = t) ∧ Hid (Below w.heap.size w wr)) (fun i _ => 4 * J - (intOf i).toNat)
  case atStart => exact ⟨0, _, by omega, rfl, HP0, HI0, Lib.hid ⟨rfl, rfl, by simp [PoolM.fresh]⟩, Lib.hid rfl, HB1⟩
  case round =>
    obtain ⟨t, P, ht, rfl, HP, HI, HQ, HST, HBR⟩ := hrel
    have HSD := Lib.hid (steps_done HI.out)
    by_cases htl : t < 4 * J
    · have hti : (t : Int) < 4 * (J : Int) := by omega
      have HCJ : Hid (P.c < P.J) := Lib.hid (by
        have h1 := HSD.out.2
        have h2 := HST.out
        have h3 := HQ.out.1
        have h4 := HI.out.ok.ct
        have h5 := HI.out.ok.ts
        have h6 := HI.out.ok.sJ
        have : P.c ≠ P.J := fun e => by have := h1.2 e; omega
        omega)
      have HEN := Lib.hid (Enabled_any B hb mb P wr HP.out HI.out)
      have HLV := Lib.hid (enab_live HI.out HCJ.out)
      have HMEM := Lib.hid (fun a (h : a ∈ P.enab (P.held.length + 2)) => enab_mem h)
      have HLL := Lib.hid (enab_len P (P.held.length + 2))
      generalize P.enab (P.held.length + 2) = el at *
      go_wp2_with fail
      refine HEN.out.mono ?_
      rintro e w2 ⟨v, rfl, ho, hb2⟩
      obtain ⟨g, cap, rfl, hg1, hg2, hg3, hg4, hg5⟩ := ho.some_of_pos (by rw [intsV_len]; exact HLV.out)
      rw [intsV_len] at hg3
      rw [intsV_len]
      have help : (0 : Int) < (el.length : Int) := by have := HLV.out; omega
      have hel0 : ((el.length : Int) == 0) = false := by rw [beq_eq_false_iff_ne]; have := HLV.out; omega
      have heli : (el.length : Int) ≤ 66 := by have := HLL.out; have := HQ.out.2.2; omega
      have HGC := Lib.hid (And.intro hg3 (And.intro hg4 hg5))
      have hP2 := HP.out.below hb2
      have HB2 := Lib.hid (HBR.out.trans (hb2.mono HBR.out.size))
      have HDO := Lib.hid (done_any B hb mb P w2 hP2)
      have hcj : (P.c == P.J) = false := by simp; have := HCJ.out; omega
      rw [hcj] at HDO
      have HP2 := Lib.hid hP2
      clear ho hg1 hg2 hg3 hg4 hg5 hP2 hb2 hcj HEN
      go_wp2_with fail
      refine HDO.out.mono ?_
      rintro e w3 ⟨rfl, m3, rfl⟩
      go_upto_if 58 with fail
      go_cut [13] (fun s13 wx => ∃ k : Nat, s13 = .int .i64 (k : Nat) ∧ k < el.length ∧ wx = w2.drewN m3)
      case first =>
        by_cases hl0 : l.length = 0
        · have hl0i : ¬ (0 : Int) < (l.length : Int) := by omega
          clear hl0
          go_wp2_with fail
          go_meet
          exact ⟨0, rfl, HLV.out, rfl⟩
        · have hl0i : (0 : Int) < (l.length : Int) := by omega
          have hl00 : ¬ (l.length : Int) = 0 := by omega
          obtain ⟨b, off, rfl, hbl, hat⟩ := (HBY.out.below (below_drewN HB2.out m3 |>.mono (Nat.le_refl _))).addr (by omega)
          have hmod : t % l.length < l.length := Nat.mod_lt _ (by omega)
          have hc1 := hat (t % l.length) hmod
          have hx := (l[t % l.length]'hmod).toNat_lt
          generalize (l[t % l.length]'hmod).toNat = x at *
          have hcl : (l.length : Int) ≤ (c : Int) := by have := HCC.out.1; omega
          have e1 : (t : Int) % (l.length : Int) = ((t % l.length : Nat) : Int) := by omega
          have hmi : ((t % l.length : Nat) : Int) < (l.length : Int) := by omega
          generalize t % l.length = q at *
          have hxi : (x : Int) < 256 := by omega
          have e2 : (x : Int) % (el.length : Int) = ((x % el.length : Nat) : Int) := by omega
          have HK := Lib.hid (Nat.mod_lt x HLV.out)
          clear hat hmod hx
          go_wp2_with fail
          go_meet
          exact ⟨x % el.length, by rw [← e2], HK.out, rfl⟩
      case rest =>
      obtain ⟨k, rfl, hk, rfl⟩ := hcut
      have hkl : k < (intsV el).length := by rw [intsV_len]; exact hk
      have hck := HGC.out.2.2 k hkl
      have hgk : (intsV el)[k] = .int .i64 ((el[k] : Nat) : Int) := by simp [intsV]
      rw [hgk] at hck
      obtain ⟨ha1, ha2⟩ := HMEM.out el[k] (List.getElem_mem hk)
      have hcap := HGC.out.1
      have hki : (k : Int) < (el.length : Int) := by omega
      generalize el[k] = a at *
      have HP3 := Lib.hid (HP2.out.keep (w' := w2.drewN m3) rfl rfl rfl)
      have HSP := Lib.hid (Step_any B hb mb P (a : Nat) (w2.drewN m3) HP3.out HI.out (by omega) (by have := HI.out.ok.n; omega))
      have HIS := Lib.hid ha2
      clear hgk hkl ha1 ha2
      go_wp2_with fail
      refine HSP.out.mono ?_
      rintro e w4 ⟨hf4, ⟨hA, _⟩ | ⟨j', P', hA, rfl, hP4⟩⟩
      · have h9 := HIS.out
        rw [hA] at h9; cases h9
      have HNX := Lib.hid (act_next HI.out HP3.out.pos hA)
      have HP4 := Lib.hid hP4
      have hB4 : Below w.heap.size w w4 := hf4.below (below_drewN HB2.out m3) HB2.out.size hB1 hB2 hB3
      have HB4 := Lib.hid hB4
      have HAL := Lib.hid (alive_any B hb mb P' w4 hP4 HNX.out.inv.ok)
      have hal : ((P'.s - P'.c : Nat) : Int) ≤ (N : Int) + (R : Int) + 1 := by
        have h1 := HNX.out.inv.alive
        have h2 := HNX.out.n
        have h3 := HNX.out.R
        have h4 := HQ.out
        omega
      have hml : (P'.m : Int) ≤ ((P'.s - P'.c : Nat) : Int) := by
        have h1 := HNX.out.inv.m_le
        have h2 := HNX.out.inv.ok.ts
        omega
      clear hA hP4 hf4 hB4 hck
      go_wp2_with fail
      refine HAL.out.mono ?_
      rintro e w5 ⟨rfl, m5, rfl⟩
      have HWT := Lib.hid (waiting_any B hb mb P' (w4.drewN m5) (HP4.out.keep rfl rfl rfl))
      go_wp2_with fail
      refine HWT.out.mono ?_
      rintro e w5 ⟨rfl, rfl⟩
      have HAL2 := Lib.hid (alive_any B hb mb P' (w4.drewN m5) (HP4.out.keep rfl rfl rfl) HNX.out.inv.ok)
      go_wp2_with fail
      refine HAL2.out.mono ?_
      rintro e w5 ⟨rfl, m6, rfl⟩
      go_wp2_with fail
      exact ⟨⟨t + 1, P', by omega, by go_num, Lib.hid (HP4.out.keep rfl rfl rfl), Lib.hid HNX.out.inv, Lib.hid ⟨HNX.out.J.trans HQ.out.1, HNX.out.R.trans HQ.out.2.1, HNX.out.n.trans HQ.out.2.2⟩, Lib.hid (by rw [HNX.out.steps, HST.out]), Lib.hid (below_drewN HB4.out _)⟩, by simp [intOf]; omega⟩
    · obtain rfl : t = 4 * J := by omega
      have hcJ : P.c = P.J := HSD.out.2.1 (by rw [HST.out, HQ.out.1])
      have hsm : P.c ≤ 10000 := by rw [hcJ, HQ.out.1]; exact hJ
      have hm0 : P.m = 0 := by
        have h1 := HI.out.m_le
        have h2 := HI.out.ok.ts
        have h3 := HI.out.ok.sJ
        omega
      have hs0 : P.s - P.c = 0 := by have h3 := HI.out.ok.sJ; omega
      have HO := Lib.hid (Out_any B hb mb P wr HP.out hsm)
      have HED := Lib.hid (enab_dead HI.out hcJ (P.held.length + 2))
      have hPJ : P.c = J := hcJ.trans HQ.out.1
      have HCJ := Lib.hid hcJ
      have HM0 := Lib.hid hm0
      have HS0 := Lib.hid hs0
      rw [hPJ] at HO
      have HPJ := Lib.hid hPJ
      clear hcJ hsm hm0 hs0 hPJ HSD
      go_wp2_with fail
      refine HO.out.mono ?_
      rintro e w2 ⟨g, rfl, hrow, hg, hb2⟩
      have HP2 := Lib.hid (HP.out.below hb2)
      have HB2 := Lib.hid (HBR.out.trans (hb2.mono HBR.out.size))
      have hlt2 : g < w2.heap.size := (Array.getElem?_eq_some_iff.1 hrow).1
      have HROW := Lib.hid (And.intro hrow hlt2)
      have HDO := Lib.hid (done_any B hb mb P w2 HP2.out)
      have hcj : (P.c == P.J) = true := by rw [HCJ.out]; simp
      rw [hcj] at HDO
      clear hrow hb2 hcj HO hlt2
      go_wp2_with fail
      refine HDO.out.mono ?_
      rintro e w3 ⟨rfl, m3, rfl⟩
      have HEN := Lib.hid (Enabled_any B hb mb P (w2.drewN m3) (HP2.out.keep rfl rfl rfl) HI.out)
      rw [HED.out] at HEN
      go_wp2_with fail
      refine HEN.out.mono ?_
      rintro e w4 ⟨v4, rfl, ho4, hb4⟩
      obtain ⟨A4, c4, rfl, _, _, _⟩ := ho4.read
      have hil : (intsV ([] : List Nat)).length = 0 := rfl
      rw [hil]
      have HP4 := Lib.hid (HP2.out.below (w' := w4) (hb4.mono (Nat.le_refl _) |> fun h => ⟨h.os, h.tape, h.output, h.size, h.block⟩))
      have HB4 := Lib.hid ((below_drewN HB2.out m3).trans (hb4.mono HB2.out.size))
      have HROW4 : Hid (w4.heap[g]? = some (.cells (intsV (List.range J)).toArray 3 (0, 0)) ∧ g < w4.heap.size) := Lib.hid ⟨(hb4.block g HROW.out.2).trans HROW.out.1, Nat.lt_of_lt_of_le HROW.out.2 hb4.size⟩
      have HAL := Lib.hid (alive_any B hb mb P w4 HP4.out HI.out.ok)
      rw [HS0.out] at HAL
      clear ho4 hb4 HEN hil HDO
      go_wp2_with fail
      refine HAL.out.mono ?_
      rintro e w5 ⟨rfl, m5, rfl⟩
      have HWT := Lib.hid (waiting_any B hb mb P (w4.drewN m5) (HP4.out.keep rfl rfl rfl))
      rw [HM0.out] at HWT
      go_wp2_with fail
      refine HWT.out.mono ?_
      rintro e w5 ⟨rfl, rfl⟩
      go_wp2_with fail
      go_loopw [17] (fun i wx => ∃ q : Nat, q ≤ J ∧ i = .int .i64 (q : Nat) ∧ wx = w4.drewN m5) (fun i _ => J - (intOf i).toNat)
      case atStart => exact ⟨0, by omega, rfl, rfl⟩
      case round =>
        obtain ⟨q, hq, rfl, rfl⟩ := hrel
        by_cases hqJ : q < J
        · have hqi : (q : Int) < (J : Int) := by omega
          have hcq : w4.cell? ⟨g, q, none⟩ = some (.int .i64 (q : Nat)) := by
            rw [cell_of_row w4 _ _ _ _ _ HROW4.out.1]
            simp [intsV, hqJ]
          go_wp2_with fail
          exact ⟨⟨q + 1, by omega, by go_num, by trivial⟩, by simp [intOf]; omega⟩
        · obtain rfl : q = J := by omega
          go_wp2_with fail
          refine (knows_any _).mono ?_
          rintro e w' ⟨rfl, hb⟩
          go_wp2_with fail
          go_ret
          exact ⟨rfl, (below_drewN HB4.out _).trans (hb.mono HB4.out.size)⟩
end Go.Proofs.Ytfjpggpgiojmhaa
