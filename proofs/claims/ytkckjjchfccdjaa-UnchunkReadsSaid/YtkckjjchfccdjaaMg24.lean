/- Several texts in one: QrLit, QrBox. -/
import Derived.Test.YtkckjjchfccdjaaMg23
import Derived.Test.YtkckjjchfccdjaaMg14
import Derived.Test.YtkckjjchfccdjaaMg11
/- The reference's Reader: literals. -/
namespace Go.Proofs.Ytkckjjchfccdjaa
set_option maxRecDepth 100000
open Go.RowKit

theorem RD.rep0 {R C base h b off cc N : Nat} {L : List UInt8} {lc lp pb st : Int} {r : R4} {y : PD} {Y : List Nat} {w : World} (hM : RD w R C base h b off cc N L lc lp pb st r y Y) : ∃ gR cap, w.cell? ⟨C, 4, none⟩ = some (.slice (some ⟨gR, 0, none⟩) 4 cap) ∧ 4 ≤ cap ∧ cap ≤ 9223372036854775807 ∧ w.cell? ⟨gR, 0, none⟩ = some (.int .i64 r.1) := by
  obtain ⟨Pl, vR, gR, gP, capP, hC, _⟩ := hM.ex
  obtain ⟨_, c4, _, _, g, cap', rfl, h4, hm, h0, _⟩ := hC.cells
  exact ⟨g, cap', c4, h4, hm, h0⟩
theorem litGo_step (io : Io) (T like : Nat) (v : Int) (n m : Nat) (al : Bool) (x : io.S) {i : Nat} (hi : T + (if al then m + (256 + 256 * (like / 2 ^ n % 2)) else m) = i) {t : Bool × io.S} (ht : io.bitAt i (Md.bitOf v n) x = t) : Md.litGo io T like v (n + 1) m al x = Md.litGo io T like v n (2 * m + t.1.toNat) (al && (t.1.toNat == like / 2 ^ n % 2)) t.2 := by
  subst ht
  subst hi
  rfl
theorem like_bit {LK j : Nat} (hj : j < 8) : (LK + 256) / 2 ^ j % 2 = LK / 2 ^ j % 2 := by
  have e : 256 = 2 ^ j * (2 * 2 ^ (7 - j)) := by
    rw [← Nat.mul_assoc, Nat.mul_comm (2 ^ j) 2, Nat.mul_assoc, ← Nat.pow_add, show j + (7 - j) = 7 by omega]
  rw [e, Nat.add_mul_div_left _ _ (Nat.pow_pos (by decide))]
  omega
theorem like_step {LK j m B : Nat} (hj : j < 8) (hB : B ≤ 1) : (decide (m = (LK + 256) / 2 ^ (j + 1)) && (B == LK / 2 ^ j % 2)) = decide (2 * m + B = (LK + 256) / 2 ^ j) := by
  have e1 : (LK + 256) / 2 ^ (j + 1) = (LK + 256) / 2 ^ j / 2 := by rw [Nat.div_div_eq_div_mul, ← Nat.pow_succ]
  rw [e1, ← like_bit hj, Bool.eq_iff_iff]
  generalize (LK + 256) / 2 ^ j = a
  simp
  omega
set_option maxRecDepth 100000 in
set_option maxHeartbeats 4000000 in
theorem qliteral_any {gd o cap R C base h b off cc N lc lp pb st : Nat} {L : List UInt8} {r : R4} {y : PD} {Y : List Nat} {w : World} (hM : RD w R C base h b off cc N L (lc : Nat) (lp : Nat) (pb : Nat) (st : Nat) r y Y) (hok : (decIo gd o cap L).ok y.2 0) (hlc : lc ≤ 4) (hlp : lp ≤ 4) (hst : st < 12) (hr1 : 1 ≤ r.1) (hr2 : r.1 ≤ 4294967296) (A : Option Addr) (H : List UInt8) (c : Nat) (hB : Bytes w A H) (hc : H.length ≤ c) (hH : H.length ≤ 1000000000)
    (hN : N = 2180 + 768 * 2 ^ (lc + lp)) (hN2 : N ≤ 1000000) (v : Int) {z : UInt8 × PD} (hz : Md.lit (decIo gd o cap L) lc lp st r.1 H v y = z) :
    Calls Try.prog 56 #[PF R, .slice A H.length c] w (MAnd ((decIo gd o cap L).ok z.2.2 0) (QDone (.int .u8 (z.1.toNat : Nat)) R C base h b off cc N L (lc : Nat) (lp : Nat) (pb : Nat) (st : Nat) r z.2 Y w)) := by
  obtain ⟨Q, hQ⟩ : ∃ Q, ((decIo gd o cap L).ok z.2.2 0) = Q := ⟨_, rfl⟩
  rw [hQ]
  have HQ := Lib.hid hQ
  have HTB := Lib.hid (rtable_any hM hlc hlp A H c hB hc hH)
  have hck := ctxN_lt (lp := lp) H (show lc ≤ 8 by omega)
  unfold Md.lit at hz
  obtain ⟨K, hK⟩ : ∃ K, ctxN lc lp H = K := ⟨_, rfl⟩
  rw [hK] at HTB hck
  simp only [hK] at hz
  obtain ⟨T, hT⟩ : ∃ T, 2180 + 768 * K = T := ⟨_, rfl⟩
  rw [hT] at HTB hz
  have hTN : T + 768 ≤ N := by omega
  have HTN := Lib.hid hTN
  have hTi : (T : Int) ≤ 1000000 := by omega
  have hsti : (st : Int) < 12 := by omega
  obtain ⟨LK, hLK⟩ : ∃ LK, Md.likeN H r.1 = LK := ⟨_, rfl⟩
  have hLK256 : LK < 256 := by rw [← hLK]; exact Md.likeN_lt H r.1
  have hLKi : (LK : Int) < 256 := by omega
  simp only [hLK] at hz
  have HBK := Lib.hid (fun (w1 : World) (hb : Below w.heap.size w w1) => back_any A H c r.1 w1 (hB.below hb) hc hH hr1 hr2)
  rw [hLK] at HBK
  have HKEEP : Hid (∀ w1, Below w.heap.size w w1 → RD w1 R C base h b off cc N L (lc : Nat) (lp : Nat) (pb : Nat) (st : Nat) r y Y) := Lib.hid (fun w1 hb => by
    obtain ⟨Pl, vR, gR, gP, capP, hC, hgR, hE, hPl, hP, hY⟩ := hM.ex
    exact ⟨⟨Pl, vR, gR, gP, capP, hC.below hb, hgR, hE.below hb, hPl, hP, hY⟩, (hb.block _ (Array.getElem?_eq_some_iff.1 hM.rbox).1).trans hM.rbox, hM.outB, hM.fair⟩)
  have HOK := Lib.hid hok
  have HRB := Lib.hid hM.rbox
  clear hQ hM hok hB hK hck hT hLK hTN hN
  by_cases h7 : st < 7
  · have h7b : decide ((st : Int) < 7) = true := decide_eq_true (by omega)
    rw [show decide (7 ≤ st) = false from decide_eq_false (by omega), litGo_false (decIo gd o cap L) T LK v 8 1 y] at hz
    obtain ⟨⟨m, y2⟩, ht⟩ : ∃ q, Md.treeGo (decIo gd o cap L) T v 8 1 y = q := ⟨_, rfl⟩
    have hb1 := (Md.tree_lt (decIo gd o cap L) T 8 v y).1
    have htt : Md.tree (decIo gd o cap L) T 8 v y = (m - 256, y2) := by unfold Md.tree; rw [ht]
    rw [ht] at hz hb1
    simp only at hz hb1
    have HM8 := Lib.hid hb1
    have HZ := Lib.hid hz
    have HT := Lib.hid htt
    clear hz h7 ht htt hb1
    go_enter Try.func56, Try.ntmps56
    have hr1' : w.cell? ⟨R, 1, none⟩ = some (PF C) := by rw [cell_of_row w _ _ _ _ _ HRB.out]; rfl
    go_wp2_with fail
    refine HTB.out.mono ?_
    rintro e w1 ⟨rfl, hb1⟩
    have hM1 := HKEEP.out w1 hb1
    obtain ⟨_, _, _, c3⟩ := hM1.heads
    have hr11 : w1.cell? ⟨R, 1, none⟩ = some (PF C) := by rw [cell_of_row w1 _ _ _ _ _ hM1.rbox]; rfl
    have HC := Lib.hid (qtree_any hM1 HOK.out (n := 8) (by omega) (at_ := T) (by have := HTN.out; simp; omega) hN2 v HT.out)
    have HB1 := Lib.hid hb1
    clear hM1 hb1
    go_wp2_with fail
    refine HC.out.mono ?_
    rintro e w2 ⟨⟨rfl, hM2, hon2⟩, ok2, hlt⟩
    obtain ⟨mm, hmm⟩ : ∃ mm, m - 256 = mm := ⟨_, rfl⟩
    rw [hmm] at hlt ⊢
    have hmi : (mm : Int) < 256 := by simp at hlt; omega
    have HW := Lib.hid (And.intro hM2 ((Only.of_below HB1.out).trans hon2 (fun i hi => .inl hi)))
    have HOK2 := Lib.hid ok2
    have HMM := Lib.hid hmm
    clear hM2 hon2 hlt ok2 hmm
    go_wp2_with fail
    go_ret
    rw [← HQ.out, ← HZ.out]
    refine ⟨⟨?_, HW.out.1, HW.out.2⟩, HOK2.out⟩
    refine congrArg (fun n : Int => Ending.returned (Value.int .u8 n)) ?_
    have := HMM.out
    have := HM8.out
    rw [UInt8.toNat_ofNat']
    omega
  · have h7b : decide ((st : Int) < 7) = false := decide_eq_false (by omega)
    rw [show decide (7 ≤ st) = true from decide_eq_true (by omega)] at hz
    obtain ⟨⟨mf, yf⟩, ht⟩ : ∃ q, Md.litGo (decIo gd o cap L) T LK v 8 1 true y = q := ⟨_, rfl⟩
    rw [ht] at hz
    simp only at hz
    have HZ := Lib.hid hz
    obtain ⟨LI, hLI⟩ : ∃ LI, LK + 256 = LI := ⟨_, rfl⟩
    have HT : Hid (Md.litGo (decIo gd o cap L) T LK v 8 1 (decide (1 = LI / 2 ^ 8)) y = (mf, yf)) := Lib.hid (by
      rw [show decide (1 = LI / 2 ^ 8) = true from decide_eq_true (by omega)]; exact ht)
    have hLIi : (LK : Int) + 256 = (LI : Int) := by omega
    have hLIb : (LI : Int) < 512 := by omega
    have HLI := Lib.hid hLI
    clear hz h7 ht hLI
    go_enter Try.func56, Try.ntmps56
    have hr1' : w.cell? ⟨R, 1, none⟩ = some (PF C) := by rw [cell_of_row w _ _ _ _ _ HRB.out]; rfl
    go_wp2_with fail
    refine HTB.out.mono ?_
    rintro e w1 ⟨rfl, hb1⟩
    have hM1 := HKEEP.out w1 hb1
    obtain ⟨_, _, _, c3⟩ := hM1.heads
    have hr11 : w1.cell? ⟨R, 1, none⟩ = some (PF C) := by rw [cell_of_row w1 _ _ _ _ _ hM1.rbox]; rfl
    obtain ⟨gR, capR, c4, hcr4, hcrm, cr0⟩ := hM1.rep0
    have hcr4i : (4 : Int) ≤ (capR : Int) := by omega
    have HM1 := Lib.hid hM1
    have HBK1 := Lib.hid (HBK.out w1 hb1)
    have HB1 := Lib.hid hb1
    clear hM1 hb1 hcr4 hcrm hr1'
    go_wp2_with fail
    refine HBK1.out.mono ?_
    rintro e w2 ⟨rfl, rfl⟩
    go_wp2_with fail
    clear c3 c4 cr0 hcr4i hr11
    go_loopw [7, 8] (fun ms i wr => ∃ (j m : Nat) (y' : PD), j ≤ 8 ∧ ms = .int .i64 (m : Nat) ∧ i = .int .i64 ((j : Int) - 1) ∧ 2 ^ (8 - j) ≤ m ∧ m < 2 ^ (8 - j) * 2 ∧ Hid ((decIo gd o cap L).ok y'.2 0) ∧ Hid (Md.litGo (decIo gd o cap L) T LK v j m (decide (m = LI / 2 ^ j)) y' = (mf, yf)) ∧ Hid (RD wr R C base h b off cc N L (lc : Nat) (lp : Nat) (pb : Nat) (st : Nat) r y' Y ∧ Only Y w1 wr)) (fun _ i _ => (intOf i + 1).toNat)
    case atStart => exact ⟨8, 1, y, Nat.le_refl _, rfl, by go_num, by decide, by decide, HOK, HT, Lib.hid ⟨HM1.out, Only.refl _ _⟩⟩
    case round =>
      obtain ⟨j, m, y', hj, rfl, rfl, hm1, hm2, HOKJ, HTJ, HM⟩ := hrel
      cases j with
      | zero =>
        have hm256 : m < 512 := by simpa using hm2
        have hmi : (m : Int) < 512 := by omega
        have HMI := Lib.hid (And.intro hm1 hm2)
        clear hm1 hm2 hm256
        have hmt : (m : Int).tmod 256 = ((m % 256 : Nat) : Int) := by rw [Int.tmod_eq_emod_of_nonneg (by omega)]; omega
        obtain ⟨mm, hmm⟩ : ∃ mm, m % 256 = mm := ⟨_, rfl⟩
        rw [hmm] at hmt
        have hmmi : (mm : Int) < 256 := by omega
        have HMM := Lib.hid hmm
        clear hmm
        go_wp2_with fail
        go_ret
        have e1 : m = mf := congrArg (fun t => t.1) HTJ.out
        have e2 : y' = yf := congrArg (fun t => t.2) HTJ.out
        subst e2
        rw [← HQ.out, ← HZ.out]
        refine ⟨⟨?_, HM.out.1, (Only.of_below HB1.out).trans HM.out.2 (fun i hi => .inl hi)⟩, HOKJ.out⟩
        refine congrArg (fun n : Int => Ending.returned (Value.int .u8 n)) ?_
        have := HMM.out
        rw [← e1, UInt8.toNat_ofNat']
        omega
      | succ j =>
        have hm256 : m < 256 := by
          have e : 2 ^ (8 - (j + 1)) * 2 = 2 ^ (8 - j) := by rw [← Nat.pow_succ]; congr 1; omega
          have : 2 ^ (8 - j) ≤ 2 ^ 8 := Nat.pow_le_pow_right (by omega) (by omega)
          omega
        have hmi : (m : Int) < 256 := by omega
        have hj8 : (j : Int) < 8 := by omega
        obtain ⟨Lb, hLb⟩ : ∃ Lb, LK / 2 ^ j % 2 = Lb := ⟨_, rfl⟩
        have hLb1 : Lb ≤ 1 := by omega
        have hLbi : (Lb : Int) ≤ 1 := by omega
        obtain ⟨q1, hq1⟩ : ∃ q, LI / 2 ^ (j + 1) = q := ⟨_, rfl⟩
        obtain ⟨al, hal⟩ : ∃ al, decide (m = q1) = al := ⟨_, rfl⟩
        have hT0 := HTJ.out
        rw [hq1, hal] at hT0
        obtain ⟨ai, hai⟩ : ∃ ai, T + (if al then m + (256 + 256 * Lb) else m) = ai := ⟨_, rfl⟩
        have haiN : ai < N := by
          have := HTN.out
          rw [← hai]
          split <;> omega
        obtain ⟨⟨tb, ty⟩, hy⟩ : ∃ t, (decIo gd o cap L).bitAt ai (Md.bitOf v j) y' = t := ⟨_, rfl⟩
        obtain ⟨hb, okb⟩ := qbit_is HM.out.1 HOKJ.out (i := ai) haiN (Md.bitOf v j) hy
        have hT2 := (litGo_step (decIo gd o cap L) T LK v j m al y' (i := ai) (t := (tb, ty)) (by rw [hLb]; exact hai) hy).symm.trans hT0
        simp only [hLb] at hT2
        have hB1 : tb.toNat ≤ 1 := by cases tb <;> decide
        have hst := like_step (LK := LK) (j := j) (m := m) (B := tb.toNat) (by omega) hB1
        rw [hLb, HLI.out, hq1, hal] at hst
        rw [hst] at hT2
        obtain ⟨B, hBB⟩ : ∃ B, tb.toNat = B := ⟨_, rfl⟩
        simp only at hb okb hT2
        rw [hBB] at hb hT2 hB1
        have HT2 := Lib.hid hT2
        have HBIT := Lib.hid hb
        have HOK2 := Lib.hid okb
        have HS1 := Lib.hid hm1
        have HS2 := Lib.hid hm2
        have hBi : (B : Int) ≤ 1 := by omega
        have HTWO := Lib.hid (two_any j (by omega) wr)
        obtain ⟨PW, hPW⟩ : ∃ PW, 2 ^ j = PW := ⟨_, rfl⟩
        have hP2 : 2 ^ (j + 1) = 2 * PW := by rw [Nat.pow_succ, hPW]; omega
        have hPb : PW ≤ 128 := by rw [← hPW]; exact Nat.pow_le_pow_right (i := j) (j := 7) (by omega) (by omega)
        have hP1 : 1 ≤ PW := by rw [← hPW]; exact Nat.one_le_two_pow
        rw [hPW] at HTWO
        obtain ⟨P2, hP2'⟩ : ∃ P2, 2 * PW = P2 := ⟨_, rfl⟩
        have hP2i : 2 * (PW : Int) = (P2 : Int) := by omega
        have hP2b : (P2 : Int) ≤ 256 := by omega
        have hP2z : (P2 : Int) ≠ 0 := by omega
        have hPWz : (PW : Int) ≠ 0 := by omega
        have hPWb : (PW : Int) ≤ 128 := by omega
        have hq1l : LI / 2 ^ (j + 1) ≤ LI := Nat.div_le_self _ _
        rw [hq1] at hq1l
        have hq1b : (q1 : Int) < 512 := by omega
        have hD1 : (LI : Int) / (P2 : Int) = (q1 : Int) := by rw [← hq1, hP2, hP2']; simp
        obtain ⟨q0, hq0⟩ : ∃ q, LI / 2 ^ j = q := ⟨_, rfl⟩
        have hq0l : LI / 2 ^ j ≤ LI := Nat.div_le_self _ _
        rw [hq0] at hq0l
        have hq0b : (q0 : Int) < 512 := by omega
        have hD2 : (LI : Int) / (PW : Int) = (q0 : Int) := by rw [← hq0, hPW]; simp
        have hlb := like_bit (LK := LK) (j := j) (by omega)
        rw [HLI.out, hq0, hLb] at hlb
        have hD3 : (q0 : Int).tmod 2 = (Lb : Int) := by rw [Int.tmod_eq_emod_of_nonneg (by omega)]; omega
        have HPOW := Lib.hid (show 2 ^ (8 - j) = 2 ^ (8 - (j + 1)) * 2 by rw [← Nat.pow_succ]; congr 1; omega)
        have HD1 := Lib.hid hD1
        have HD2 := Lib.hid hD2
        clear hb okb hm1 hm2 hy hT0 hT2 hst hBB hPW hP2 hq1 hq0 hLb hlb hq0l hq1l hP2' hPb hP1 hLb1 hD1 hD2
        cases al with
        | true =>
          have hqq : ((m : Int) == (q1 : Int)) = true := by
            rw [of_decide_eq_true hal]; simp
          simp only [if_true] at hai
          obtain ⟨T1, hT1⟩ : ∃ T1, T + 256 = T1 := ⟨_, rfl⟩
          obtain ⟨L1, hL1'⟩ : ∃ L1, 256 * Lb = L1 := ⟨_, rfl⟩
          obtain ⟨T2, hT2'⟩ : ∃ T2, T1 + L1 = T2 := ⟨_, rfl⟩
          have hT1i : (T : Int) + 256 = (T1 : Int) := by omega
          have hL1i : 256 * (Lb : Int) = (L1 : Int) := by omega
          have hT2i : (T1 : Int) + (L1 : Int) = (T2 : Int) := by omega
          have haii : (T2 : Int) + (m : Int) = (ai : Int) := by omega
          have hT1b : (T1 : Int) ≤ 2000000 := by omega
          have hL1b : (L1 : Int) ≤ 2000000 := by omega
          have hT2b : (T2 : Int) ≤ 4000000 := by omega
          have haib : (ai : Int) ≤ 5000000 := by omega
          clear hT1 hL1' hT2' hai haiN hal
          have hd1 := HD1.out
          have hd2 := HD2.out
          go_wp2_with fail
          refine HTWO.out.mono ?_
          rintro e w2 ⟨rfl, rfl⟩
          go_wp2_with fail
          refine HBIT.out.mono ?_
          rintro e w2 ⟨rfl, hM2, hon2⟩
          have HW := Lib.hid (And.intro hM2 (HM.out.2.same hon2))
          clear hM2 hon2 hd1 hd2
          go_wp2_with fail
          exact ⟨⟨j, 2 * m + B, ty, by omega, by go_num, by go_num, by have := HS1.out; have := HPOW.out; omega, by have := HS2.out; have := HPOW.out; omega, HOK2, HT2, HW⟩, by simp [intOf] <;> omega⟩
        | false =>
          have hqq : ((m : Int) == (q1 : Int)) = false := by
            have := of_decide_eq_false hal
            rw [beq_eq_false_iff_ne]; omega
          simp only [if_false, Bool.false_eq_true] at hai
          have haii : (T : Int) + (m : Int) = (ai : Int) := by omega
          have haib : (ai : Int) ≤ 5000000 := by omega
          clear hai haiN hal
          have hd1 := HD1.out
          go_wp2_with fail
          refine HTWO.out.mono ?_
          rintro e w2 ⟨rfl, rfl⟩
          go_wp2_with fail
          refine HBIT.out.mono ?_
          rintro e w2 ⟨rfl, hM2, hon2⟩
          have HW := Lib.hid (And.intro hM2 (HM.out.2.same hon2))
          clear hM2 hon2 hd1
          go_wp2_with fail
          exact ⟨⟨j, 2 * m + B, ty, by omega, by go_num, by go_num, by have := HS1.out; have := HPOW.out; omega, by have := HS2.out; have := HPOW.out; omega, HOK2, HT2, HW⟩, by simp [intOf] <;> omega⟩
end Go.Proofs.Ytkckjjchfccdjaa

/- The reference's Reader: the symbol's boxes. -/
namespace Go.Proofs.Ytkckjjchfccdjaa
set_option maxRecDepth 100000
open Go.RowKit

theorem RD.below {R C base h b off cc N : Nat} {L : List UInt8} {lc lp pb st : Int} {r : R4} {y : PD} {Y : List Nat} {w w1 : World} (hM : RD w R C base h b off cc N L lc lp pb st r y Y) (hb : Below w.heap.size w w1) : RD w1 R C base h b off cc N L lc lp pb st r y Y := by
  obtain ⟨Pl, vR, gR, gP, capP, hC, hgR, hE, hPl, hP, hY⟩ := hM.ex
  exact ⟨⟨Pl, vR, gR, gP, capP, hC.below hb, hgR, hE.below hb, hPl, hP, hY⟩, (hb.block _ (Array.getElem?_eq_some_iff.1 hM.rbox).1).trans hM.rbox, hM.outB, hM.fair⟩
/-- A store elsewhere. -/
theorem RD.setFar {R C base h b off cc N : Nat} {L : List UInt8} {lc lp pb st : Int} {r : R4} {y : PD} {Y : List Nat} {w : World} (hM : RD w R C base h b off cc N L lc lp pb st r y Y) {p : Addr} (hY : p.block ∉ Y) (hR : p.block ≠ R) (hb : p.block ≠ b) (u : Value) : RD (w.setCell p u) R C base h b off cc N L lc lp pb st r y Y := by
  have hrb := hM.rbox
  have houtB := hM.outB
  have hFA := hM.fair
  obtain ⟨Pl, vR, gR, gP, capP, hC, hgR, hE, hPl, hP, rfl⟩ := hM.ex
  simp only [List.mem_cons, List.not_mem_nil, or_false, not_or] at hY
  obtain ⟨n1, n2, n3, n4⟩ := hY
  refine ⟨⟨Pl, vR, gR, gP, capP, ⟨(heap_setCell_other _ _ _ _ (fun e => n1 e.symm)).trans hC.box, hC.reps.setOther (by rw [hgR]; simpa using fun e => n2 e.symm) _, hC.ps.setOther (by show (some gP) ≠ some p.block; simpa using fun e => n3 e.symm) _⟩, hgR, ?_, hPl, hP, rfl⟩, (heap_setCell_other _ _ _ _ (fun e => hR e.symm)).trans hrb, houtB, hFA⟩
  obtain ⟨x, z, h1, h2⟩ := hE
  exact ⟨x, z, h1, h2.keep (by simp) (heap_setCell_other _ _ _ _ (fun e => n4 e.symm)) (heap_setCell_other _ _ _ _ (fun e => hb e.symm))⟩
theorem RD.lt {R C base h b off cc N : Nat} {L : List UInt8} {lc lp pb st : Int} {r : R4} {y : PD} {Y : List Nat} {w : World} (hM : RD w R C base h b off cc N L lc lp pb st r y Y) : (∀ i ∈ Y, i < w.heap.size) ∧ R < w.heap.size ∧ b < w.heap.size := by
  have hrb := (Array.getElem?_eq_some_iff.1 hM.rbox).1
  obtain ⟨Pl, vR, gR, gP, capP, hC, hgR, hE, hPl, hP, rfl⟩ := hM.ex
  obtain ⟨x, z, h1, h2⟩ := hE
  refine ⟨fun i hi => ?_, hrb, h2.lt⟩
  simp only [List.mem_cons, List.not_mem_nil, or_false] at hi
  rcases hi with rfl | rfl | rfl | rfl
  · exact hC.lt
  · exact (hC.reps.lt _ hgR).2
  · exact (hC.ps.lt _ rfl).2
  · exact (Array.getElem?_eq_some_iff.1 h2.blk).1
/-- A symbol is being read: its box t, and the result's box s. -/
structure QB (w X : World) (s t : Nat) (R C base h b off cc N : Nat) (L : List UInt8) (lc lp pb st : Int) (r : R4) (y : PD) (Y : List Nat) (k : Int) (u : UInt8) (l d q : Int) : Prop where
  rd : RD X R C base h b off cc N L lc lp pb st r y Y
  only : Only Y w X
  box : X.heap[t]? = some (.cells [Value.int .i64 k, .int .u8 (u.toNat : Nat), .int .i64 l, .int .i64 d, .int .i64 q].toArray 99 (0, 0))
  res : X.heap[s]? = some (.cells [Value.int .i64 0, .int .u8 0, .int .i64 0, .int .i64 0, .int .i64 0].toArray 99 (0, 0))
  sp : w.heap.size ≤ s ∧ w.heap.size ≤ t ∧ s ≠ t ∧ s ≠ R ∧ t ≠ R ∧ s ≠ b ∧ t ≠ b ∧ s ∉ Y ∧ t ∉ Y
section
variable {w X : World} {s t R C base h b off cc N : Nat} {L : List UInt8} {lc lp pb st : Int} {r : R4} {y : PD} {Y : List Nat} {k : Int} {u : UInt8} {l d q : Int}
theorem QB.cells (H : QB w X s t R C base h b off cc N L lc lp pb st r y Y k u l d q) : (X.cell? ⟨t, 0, none⟩ = some (.int .i64 k) ∧ X.cell? ⟨t, 1, none⟩ = some (.int .u8 (u.toNat : Nat)) ∧ X.cell? ⟨t, 2, none⟩ = some (.int .i64 l) ∧ X.cell? ⟨t, 3, none⟩ = some (.int .i64 d) ∧ X.cell? ⟨t, 4, none⟩ = some (.int .i64 q)) ∧
    (X.cell? ⟨s, 0, none⟩ = some (.int .i64 0) ∧ X.cell? ⟨s, 1, none⟩ = some (.int .u8 0) ∧ X.cell? ⟨s, 2, none⟩ = some (.int .i64 0) ∧ X.cell? ⟨s, 3, none⟩ = some (.int .i64 0) ∧ X.cell? ⟨s, 4, none⟩ = some (.int .i64 0)) ∧ (∀ i, X.frozen? ⟨t, i, none⟩ = false) ∧ ∀ i, X.frozen? ⟨s, i, none⟩ = false := by
  refine ⟨⟨?_, ?_, ?_, ?_, ?_⟩, ⟨?_, ?_, ?_, ?_, ?_⟩, fun i => frozen_of_row _ _ _ _ _ H.box, fun i => frozen_of_row _ _ _ _ _ H.res⟩
  iterate 5 (rw [cell_of_row X _ _ _ _ _ H.box]; rfl)
  all_goals (rw [cell_of_row X _ _ _ _ _ H.res]; rfl)
theorem QB.step (H : QB w X s t R C base h b off cc N L lc lp pb st r y Y k u l d q) {y' : PD} {X' : World} (hM : RD X' R C base h b off cc N L lc lp pb st r y' Y) (ho : Only Y X X') : QB w X' s t R C base h b off cc N L lc lp pb st r y' Y k u l d q := by
  have hp := H.sp
  exact ⟨hM, H.only.same ho, (ho.block t (Array.getElem?_eq_some_iff.1 H.box).1 hp.2.2.2.2.2.2.2.2).trans H.box, (ho.block s (Array.getElem?_eq_some_iff.1 H.res).1 hp.2.2.2.2.2.2.2.1).trans H.res, hp⟩
theorem QB.setN (H : QB w X s t R C base h b off cc N L lc lp pb st r y Y k u l d q) (i : Nat) (v : Value) : RD (X.setCell ⟨t, i, none⟩ v) R C base h b off cc N L lc lp pb st r y Y ∧ Only Y w (X.setCell ⟨t, i, none⟩ v) ∧ (X.setCell ⟨t, i, none⟩ v).heap[s]? = X.heap[s]? := by
  obtain ⟨p1, p2, p3, p4, p5, p6, p7, p8, p9⟩ := H.sp
  exact ⟨H.rd.setFar p9 p5 p7 v, H.only.setCell (p := ⟨t, i, none⟩) (.inr p2) v, heap_setCell_other _ _ _ _ p3⟩
theorem QB.setK (H : QB w X s t R C base h b off cc N L lc lp pb st r y Y k u l d q) (v : Int) : QB w (X.setCell ⟨t, 0, none⟩ (.int .i64 v)) s t R C base h b off cc N L lc lp pb st r y Y v u l d q :=
  ⟨(H.setN 0 _).1, (H.setN 0 _).2.1, heap_set H.box 0 _, (H.setN 0 _).2.2.trans H.res, H.sp⟩
theorem QB.setB (H : QB w X s t R C base h b off cc N L lc lp pb st r y Y k u l d q) (v : UInt8) : QB w (X.setCell ⟨t, 1, none⟩ (.int .u8 (v.toNat : Nat))) s t R C base h b off cc N L lc lp pb st r y Y k v l d q :=
  ⟨(H.setN 1 _).1, (H.setN 1 _).2.1, heap_set H.box 1 _, (H.setN 1 _).2.2.trans H.res, H.sp⟩
theorem QB.setL (H : QB w X s t R C base h b off cc N L lc lp pb st r y Y k u l d q) (v : Int) : QB w (X.setCell ⟨t, 2, none⟩ (.int .i64 v)) s t R C base h b off cc N L lc lp pb st r y Y k u v d q :=
  ⟨(H.setN 2 _).1, (H.setN 2 _).2.1, heap_set H.box 2 _, (H.setN 2 _).2.2.trans H.res, H.sp⟩
theorem QB.setD (H : QB w X s t R C base h b off cc N L lc lp pb st r y Y k u l d q) (v : Int) : QB w (X.setCell ⟨t, 3, none⟩ (.int .i64 v)) s t R C base h b off cc N L lc lp pb st r y Y k u l v q :=
  ⟨(H.setN 3 _).1, (H.setN 3 _).2.1, heap_set H.box 3 _, (H.setN 3 _).2.2.trans H.res, H.sp⟩
theorem QB.setQ (H : QB w X s t R C base h b off cc N L lc lp pb st r y Y k u l d q) (v : Int) : QB w (X.setCell ⟨t, 4, none⟩ (.int .i64 v)) s t R C base h b off cc N L lc lp pb st r y Y k u l d v :=
  ⟨(H.setN 4 _).1, (H.setN 4 _).2.1, heap_set H.box 4 _, (H.setN 4 _).2.2.trans H.res, H.sp⟩
theorem QB.done (H : QB w X s t R C base h b off cc N L lc lp pb st r y Y k u l d q) (v0 v1 v2 v3 v4 : Value) :
    RD (((((X.setCell ⟨s, 0, none⟩ v0).setCell ⟨s, 1, none⟩ v1).setCell ⟨s, 2, none⟩ v2).setCell ⟨s, 3, none⟩ v3).setCell ⟨s, 4, none⟩ v4) R C base h b off cc N L lc lp pb st r y Y ∧ Only Y w (((((X.setCell ⟨s, 0, none⟩ v0).setCell ⟨s, 1, none⟩ v1).setCell ⟨s, 2, none⟩ v2).setCell ⟨s, 3, none⟩ v3).setCell ⟨s, 4, none⟩ v4) := by
  obtain ⟨p1, p2, p3, p4, p5, p6, p7, p8, p9⟩ := H.sp
  exact ⟨((((H.rd.setFar p8 p4 p6 _).setFar p8 p4 p6 _).setFar p8 p4 p6 _).setFar p8 p4 p6 _).setFar p8 p4 p6 _, ((((H.only.setCell (p := ⟨s, 0, none⟩) (.inr p1) _).setCell (p := ⟨s, 1, none⟩) (.inr p1) _).setCell (p := ⟨s, 2, none⟩) (.inr p1) _).setCell (p := ⟨s, 3, none⟩) (.inr p1) _).setCell (p := ⟨s, 4, none⟩) (.inr p1) _⟩
theorem RD.boxes (hM : RD w R C base h b off cc N L lc lp pb st r y Y) {W1 W2 : World} (h1 : w.alloc (.cells #[.int .i64 0, .int .u8 0, .int .i64 0, .int .i64 0, .int .i64 0] 99) = W1) (h2 : W1.alloc (.cells #[.int .i64 0, .int .u8 0, .int .i64 0, .int .i64 0, .int .i64 0] 99) = W2) :
    QB w W2 w.heap.size W1.heap.size R C base h b off cc N L lc lp pb st r y Y 0 0 0 0 0 ∧ Below w.heap.size w W1 ∧ Below w.heap.size w W2 := by
  have hb1 : Below w.heap.size w W1 := by rw [← h1]; exact (Below.refl _ _).alloc (Nat.le_refl _) _
  have hb2 : Below W1.heap.size W1 W2 := by rw [← h2]; exact (Below.refl _ _).alloc (Nat.le_refl _) _
  have hb := hb1.trans (hb2.mono hb1.size)
  have hs1 : W1.heap.size = w.heap.size + 1 := by rw [← h1]; simp
  obtain ⟨l1, l2, l3⟩ := hM.lt
  refine ⟨⟨hM.below hb, Only.of_below hb, ?_, ?_, ⟨Nat.le_refl _, by omega, by omega, by omega, by omega, by omega, by omega, fun h => by have := l1 _ h; omega, fun h => by have := l1 _ h; omega⟩⟩, hb1, hb⟩
  · rw [← h2]; exact heap_alloc_last _ _
  · exact (hb2.block _ (by omega)).trans (by rw [← h1]; exact heap_alloc_last _ _)
end
end Go.Proofs.Ytkckjjchfccdjaa
