/- ModelPuts: for every input the law returns true. -/
import Derived.Test.YtiodlhieaajcgaaMlKnows
import Derived.Test.YtiodlhieaajcgaaRcRefBytes
import Derived.Test.YtiodlhieaajcgaaMlGrow
import Derived.Deep.RegionHeld3
namespace Go.Proofs.Ytiodlhieaajcgaa
open Go.RowKit

theorem re_start {w w1 w2 : World} {C lc lp pb h o cap : Nat} {vR vP : Value} (hC : CodAt w1 C w.heap.size lc lp pb 0 (1, 1, 1, 1) (List.replicate (2180 + 768 * 2 ^ (lc + lp)) 1024) vR vP) (hbC : w.heap.size ≤ C) (hb : Below w1.heap.size w1 w2) (hR : RefAt w2 h o cap st0) (h1 : w.heap.size ≤ h) (h2 : w.heap.size ≤ o) :
    ∃ Y, RE w2 C w.heap.size h (2180 + 768 * 2 ^ (lc + lp)) (lc : Nat) (lp : Nat) (pb : Nat) ((0 : Nat) : Int) (1, 1, 1, 1) (fun _ => 1024, st0) Y ∧ ∀ i ∈ Y, w.heap.size ≤ i := by
  obtain ⟨gR, capR, eR, hgR, _⟩ := hC.reps.some_of_pos (show 0 < 4 by decide)
  have hlen : ((List.replicate (2180 + 768 * 2 ^ (lc + lp)) 1024).map fun x : Nat => Value.int .u16 (x : Nat)).length = 2180 + 768 * 2 ^ (lc + lp) := by simp
  obtain ⟨gP, capP, eP, hgP, _⟩ := hC.ps.some_of_pos (by rw [hlen]; omega)
  rw [hlen] at eP
  subst eP
  refine ⟨[C, gR, gP, h, o], ⟨⟨_, vR, gR, gP, capP, o, cap, hC.below hb, by rw [eR]; rfl, hR, by simp, fun i hi => ?_, rfl⟩, fun i => ⟨show 1 ≤ 1024 by decide, show 1024 ≤ 2047 by decide⟩⟩, ?_⟩
  · rw [List.getElem?_replicate, if_pos hi]
  · intro i hi
    simp only [List.mem_cons, List.not_mem_nil, or_false] at hi
    rcases hi with rfl | rfl | rfl | rfl | rfl <;> assumption
theorem enc_ok_small {g : Nat} {s : Rc.St} (h : (encIo g).ok s 100) : s.v < 256 ^ (4 + s.k) ∧ 1 + s.k + 4 ≤ 140737488355328 ∧ 4 + s.k + 1 ≤ 140737488355328 := by
  obtain ⟨⟨⟨h1, h2⟩, h3⟩, h4⟩ := h
  refine ⟨?_, by omega, by omega⟩
  have : s.v + s.r ≤ 256 ^ (4 + s.k) := h1
  omega
theorem syms_at {w : World} {A1 : Option Addr} {l : List SyI} (h : Syms w A1 l) {n : Nat} (hn : n < l.length) : ∃ b off, A1 = some ⟨b, off, none⟩ ∧ ∀ W, Below w.heap.size w W → W.cell? ⟨b, off + n * 5, none⟩ = some (.int .i64 l[n].k) ∧ W.cell? ⟨b, off + n * 5 + 1, none⟩ = some (.int .u8 (l[n].b.toNat : Nat)) ∧ W.cell? ⟨b, off + n * 5 + 2, none⟩ = some (.int .i64 l[n].l) ∧ W.cell? ⟨b, off + n * 5 + 3, none⟩ = some (.int .i64 l[n].d) ∧ W.cell? ⟨b, off + n * 5 + 4, none⟩ = some (.int .i64 l[n].r) := by
  rcases h with rfl | ⟨b, off, hA, hb, hc⟩
  · simp at hn
  · refine ⟨b, off, hA, fun W hW => ?_⟩
    obtain ⟨c0, c1, c2, c3, c4⟩ := hc n hn
    exact ⟨(hW.cell (p := ⟨b, _, none⟩) hb).trans c0, (hW.cell (p := ⟨b, _, none⟩) hb).trans c1, (hW.cell (p := ⟨b, _, none⟩) hb).trans c2, (hW.cell (p := ⟨b, _, none⟩) hb).trans c3, (hW.cell (p := ⟨b, _, none⟩) hb).trans c4⟩
theorem dist_back {r : R4} {H : List UInt8} {k l d q : Int} (hr : rGood r) (hf : fitsZ r (H.length : Int) k l d q = true) : ∃ bk : Nat, distZ r k d q = (bk : Int) ∧ (k ≠ 0 → 1 ≤ bk ∧ bk ≤ H.length) ∧ (k = 2 → 0 ≤ q ∧ q ≤ 3) ∧ (k ≠ 0 → 1 ≤ l ∧ l ≤ 273) := by
  rcases fitsZ_cases hf with rfl | ⟨rfl, h2, h3, h4, h5, h6⟩ | ⟨rfl, h0, h1, h4, h5⟩
  · exact ⟨0, rfl, fun h => absurd rfl h, fun h => absurd h (by decide), fun h => absurd rfl h⟩
  · refine ⟨d.toNat, ?_, fun _ => by omega, fun h => absurd h (by decide), fun _ => by omega⟩
    unfold distZ
    rw [if_pos rfl]; omega
  · have hq : 1 ≤ rAt r q := by
      obtain ⟨⟨a1, a2, a3, a4⟩, _⟩ := hr
      unfold rAt
      rcases (by omega : q = 0 ∨ q = 1 ∨ q = 2 ∨ q = 3) with rfl | rfl | rfl | rfl
      · exact a1
      · exact a2
      · exact a3
      · exact a4
    refine ⟨(rAt r q).toNat, ?_, fun _ => by omega, fun _ => ⟨h0, h1⟩, fun _ => by omega⟩
    unfold distZ
    rw [if_neg (by decide), if_pos rfl]; omega
theorem grow_length {H : List UInt8} {k : Int} {b : UInt8} {l back : Nat} (hl : k ≠ 0 → l ≤ 273) : (growS H k b l back).length ≤ H.length + 300 := by
  unfold growS
  by_cases h : k = 0
  · rw [if_pos h]; simp
  · rw [if_neg h, growN_length]; have := hl h; omega
set_option maxRecDepth 100000 in
set_option maxHeartbeats 4000000 in
theorem puts_law (lc lp pb : Int) (A : Option Addr) (H0 : List UInt8) (c : Nat) (A1 : Option Addr) (l : List SyI) (c1 : Nat) (w : World) (_ : -9223372036854775808 ≤ lc) (_ : lc ≤ 9223372036854775807) (_ : -9223372036854775808 ≤ lp) (_ : lp ≤ 9223372036854775807) (_ : -9223372036854775808 ≤ pb) (_ : pb ≤ 9223372036854775807)
    (hB : Bytes w A H0 ∧ ∀ a, A = some a → a.block < w.heap.size) (hc : H0.length ≤ c) (hm : c ≤ 9223372036854775807) (hS : Syms w A1 l) (hc1 : l.length ≤ c1) (hm1 : c1 ≤ 9223372036854775807) :
    Calls Try.prog 3 #[.int .i64 lc, .int .i64 lp, .int .i64 pb, .slice A H0.length c, .slice A1 l.length c1] w (Holds w) := by
  have hmi : (H0.length : Int) ≤ 9223372036854775807 := by omega
  have hmi1 : (l.length : Int) ≤ 9223372036854775807 := by omega
  by_cases hout : (500 : Int) < (H0.length : Int) ∨ (60 : Int) < (l.length : Int)
  · have hs : ((500 : Int) < (H0.length : Int)) ∨ (¬ (500 : Int) < (H0.length : Int) ∧ (60 : Int) < (l.length : Int)) := by omega
    clear hout hB hS
    rcases hs with g1 | ⟨g1, g2⟩
    all_goals
      go_enter Try.func3, Try.ntmps3
      go_wp2_with fail
      refine (knows_any _).mono ?_
      rintro e w1 ⟨rfl, hb⟩
      go_wp2_with fail
      go_ret
      exact ⟨rfl, hb⟩
  have i1 : ¬ (500 : Int) < (H0.length : Int) := by omega
  have i2 : ¬ (60 : Int) < (l.length : Int) := by omega
  have hMAY := Lib.hid (fun w => may_any lc lp pb w)
  cases hp : permB lc lp pb with
  | false =>
    have HNB := Lib.hid (mnew_bad lc lp pb w hp)
    rw [hp] at hMAY
    clear hp hB hS hout
    go_enter Try.func3, Try.ntmps3
    go_wp2_with fail
    refine HNB.out.mono ?_
    rintro e w1 ⟨rfl, rfl⟩
    go_wp2_with fail
    refine (hMAY.out _).mono ?_
    rintro e w2 ⟨rfl, rfl⟩
    go_wp2_with fail
    refine (knows_any _).mono ?_
    rintro e w3 ⟨rfl, hb⟩
    go_wp2_with fail
    go_ret
    exact ⟨rfl, hb⟩
  | true =>
    rw [hp] at hMAY
    have hp' := of_decide_eq_true hp
    clear hp
    obtain ⟨lc, rfl⟩ : ∃ n : Nat, lc = n := ⟨lc.toNat, by omega⟩
    obtain ⟨lp, rfl⟩ : ∃ n : Nat, lp = n := ⟨lp.toNat, by omega⟩
    obtain ⟨pb, rfl⟩ : ∃ n : Nat, pb = n := ⟨pb.toNat, by omega⟩
    have hlc : lc ≤ 4 := by omega
    have hlp : lp ≤ 4 := by omega
    have hpb : pb ≤ 4 := by omega
    have hlcp : lc + lp ≤ 4 := by omega
    have HNG := Lib.hid (mnew_good lc lp pb w hlc hlp hpb hlcp)
    have HPAR := Lib.hid (And.intro hlc (And.intro hlp (And.intro hpb hlcp)))
    have HNC := Lib.hid (fun w => newC_any lc lp pb (by omega) w)
    have HSYM := Lib.hid (fun (n : Nat) (hn : n < l.length) => syms_at hS hn)
    have HB := Lib.hid hB
    have HC := Lib.hid hc
    have HCM := Lib.hid hm
    have hli : (l.length : Int) ≤ 60 := by omega
    have hl60 : l.length ≤ 60 := by omega
    have hHi : (H0.length : Int) ≤ 500 := by omega
    have hH500 : H0.length ≤ 500 := by omega
    have HL60 := Lib.hid hl60
    have HH500 := Lib.hid hH500
    have e01 : decide ((500 : Int) < (H0.length : Int)) = false := decide_eq_false i1
    have e02 : decide ((60 : Int) < (l.length : Int)) = false := decide_eq_false i2
    have hc1i : (l.length : Int) ≤ (c1 : Int) := by omega
    clear hp' hB hS hout hlc hlp hpb hlcp hl60 hH500 i1 i2 hc hm
    go_enter Try.func3, Try.ntmps3
    go_wp2_with fail
    refine HNG.out.mono ?_
    rintro e w1 ⟨C, L, rfl, hM, hb1, hC, hL⟩
    have HM := Lib.hid hM
    have HB1 := Lib.hid hb1
    have HCL0 := Lib.hid (And.intro hC hL)
    clear hM hb1 hC hL
    go_wp2_with fail
    refine (hMAY.out _).mono ?_
    rintro e w1' ⟨rfl, rfl⟩
    go_wp2_with fail
    refine (new_any _).mono ?_
    rintro e w2 ⟨g, o, cap, rfl, hE, hb2, hg, ho⟩
    have HMS := Lib.hid (ms_start HM.out hb2 hE hg ho)
    have HB2 := Lib.hid (HB1.out.trans (hb2.mono HB1.out.size))
    have HGO := Lib.hid (And.intro (Nat.le_trans HB1.out.size hg) (Nat.le_trans HB1.out.size ho))
    clear hE hb2 hg ho
    go_wp2_with fail
    refine (HNC.out w2).mono ?_
    rintro e w3 ⟨C2, vR, vP, rfl, hco, hb3, hC2⟩
    have HCO := Lib.hid hco
    have HB23 := Lib.hid hb3
    have HC2 := Lib.hid hC2
    have HB3 := Lib.hid (HB2.out.trans (hb3.mono HB2.out.size))
    clear hco hb3 hC2
    go_wp2_with fail
    refine (rnew_any w3).mono ?_
    rintro e w4 ⟨h, oR, capR, rfl, hR, hb4, hh, hoR⟩
    have HB4 := Lib.hid (HB3.out.trans (hb4.mono HB3.out.size))
    have HTW : Hid (∃ Y, Twin w w4 g C L lc lp pb 0 (1, 1, 1, 1) (fun _ => 1024, st0) [g, o] C2 w2.heap.size h (2180 + 768 * 2 ^ (lc + lp)) 0 (1, 1, 1, 1) (fun _ => 1024, st0) Y) := Lib.hid (by
      have s3 := HB23.out.size
      obtain ⟨Y, hre, hY⟩ := re_start HCO.out HC2.out hb4 hR (by omega) (by omega)
      have hb24 : Below w2.heap.size w2 w4 := HB23.out.trans (hb4.mono s3)
      have hms := HMS.out.below hb24
      have hlt := HMS.out.ltall
      refine ⟨Y, ⟨hms, hre, fun i hi hm => by have := hlt i hm; have := hY i hi; omega, fun i hi => ?_, fun i hi => Nat.le_trans HB2.out.size (hY i hi), HB4.out, hb24.size⟩⟩
      simp only [List.mem_cons, List.not_mem_nil, or_false] at hi
      rcases hi with rfl | rfl | rfl | rfl
      · exact HCL0.out.1
      · exact HCL0.out.2
      · exact HGO.out.1
      · exact HGO.out.2)
    obtain ⟨Y, hT⟩ := HTW.out
    have HT := Lib.hid hT
    have HHI : Hid (HistAt w4 (.slice A H0.length c) H0 ((C :: L :: [g, o]) ++ Y)) := Lib.hid ⟨A, c, rfl, HC.out, HCM.out, HB.out.1.below HB4.out, fun a e => ⟨Nat.lt_of_lt_of_le (HB.out.2 a e) HB4.out.size, fun hz => by
      have h1 := HB.out.2 a e
      rcases List.mem_append.1 hz with hz | hz
      · have := HT.out.loX _ hz; omega
      · have := HT.out.loY _ hz; omega⟩⟩
    clear hR hb4 hh hoR hT HTW
    go_wp2_with fail
    obtain ⟨N, hN⟩ : ∃ N, 2180 + 768 * 2 ^ (lc + lp) = N := ⟨_, rfl⟩
    rw [hN] at HT
    have HN := Lib.hid hN.symm
    have HN2 : Hid (N ≤ 1000000) := Lib.hid (by
      rw [← hN]
      have : 2 ^ (lc + lp) ≤ 2 ^ 4 := Nat.pow_le_pow_right (by omega) HPAR.out.2.2.2
      omega)
    obtain ⟨base, hbase⟩ : ∃ b, w2.heap.size = b := ⟨_, rfl⟩
    rw [hbase] at HT
    clear hN hbase HCO HB23 HC2 HMS HGO HCL0 HNC HNG HM
    go_loopw [16, 17] (fun hs i wr => ∃ (n : Nat) (H : List UInt8) (hv : Value) (st : Nat) (r : R4) (x : (encIo g).S) (X Y : List Nat), hv = hs ∧ i = .int .i64 (n : Nat) ∧ n ≤ l.length ∧ Hid (H.length ≤ 500 + 300 * n) ∧ Hid (st < 12 ∧ rGood r ∧ (encIo g).ok x.2 (100 * (60 - n) + 100)) ∧ Hid (Twin w wr g C L lc lp pb st r x X C2 base h N st r x Y) ∧ Hid (HistAt wr hv H ((C :: L :: X) ++ Y))) (fun _ i _ => 60 - (intOf i).toNat)
    case atStart => exact ⟨0, H0, _, 0, (1, 1, 1, 1), _, _, _, rfl, rfl, Nat.zero_le _, Lib.hid (by have := HH500.out; omega), Lib.hid ⟨by decide, rGood1, st0_oks g _ (by decide)⟩, HT, HHI⟩
    case round =>
      obtain ⟨n, H, hv, st, r, x, X, Y, rfl, rfl, hn, HHL, HST, HT, HHI⟩ := hrel
      by_cases hnl : n < l.length
      · have hni : (n : Int) < (l.length : Int) := by omega
        obtain ⟨b, off, hA1, hcells⟩ := HSYM.out n hnl
        subst hA1
        obtain ⟨⟨sk, sb, sl, sd, sq⟩, hs⟩ : ∃ s, l[n] = s := ⟨_, rfl⟩
        rw [hs] at hcells
        simp only at hcells
        have HSYB := Lib.hid hcells
        have HN60 : Hid (n < 60) := Lib.hid (by have := HL60.out; omega)
        obtain ⟨AH, cH, eH, hcH, hmH, hBH, hAH⟩ := HHI.out
        subst eH
        have hHl : H.length ≤ 1000000 := by have := HHL.out; have := HL60.out; omega
        have hHli : (H.length : Int) ≤ 1000000 := by omega
        have hcHi : (H.length : Int) ≤ (cH : Int) := by omega
        have HBH := Lib.hid hBH
        have HAH := Lib.hid hAH
        have HCH := Lib.hid hcH
        have HHL2 := Lib.hid hHl
        clear hcells hs hBH hAH hcH
        cases hf : fitsZ r (H.length : Int) sk sl sd sq with
        | false =>
          have HP := Lib.hid (put_no HT.out.ms.mod (PF g) AH H.length cH (by omega) sk sb sl sd sq hf)
          have HF := Lib.hid hf
          clear hf
          obtain ⟨q0, q1, q2, q3, q4⟩ := HSYB.out _ HT.out.below
          go_wp2_with fail
          refine HP.out.mono ?_
          rintro e w5 ⟨rfl, hb5⟩
          have HT5 := Lib.hid (HT.out.next hb5)
          have HHI5 := Lib.hid (HHI.out.below hb5)
          obtain ⟨Pl, vR5, vP5, hco5⟩ := HT5.out.re.cod
          have HFI := Lib.hid (fits_any C2 base lc lp pb st r Pl vR5 vP5 AH H.length cH sk sb sl sd sq w5 hco5)
          rw [HF.out] at HFI
          clear q0 q1 q2 q3 q4
          clear hb5 hco5
          obtain ⟨q0, q1, q2, q3, q4⟩ := HSYB.out _ HT5.out.below
          go_wp2_with fail
          refine HFI.out.mono ?_
          rintro e w6 ⟨rfl, hb6⟩
          have HT6 := Lib.hid (HT5.out.next hb6)
          have HHI6 := Lib.hid (HHI5.out.below hb6)
          clear q0 q1 q2 q3 q4
          clear hb6
          go_wp2_with fail
          exact ⟨⟨n + 1, H, _, st, r, x, X, Y, rfl, by go_num, by omega, Lib.hid (by have := HHL.out; omega), Lib.hid ⟨HST.out.1, HST.out.2.1, (encIo g).le HST.out.2.2 (by omega)⟩, HT6, HHI6⟩, by simp [intOf]; have := HN60.out; omega⟩
        | true =>
          obtain ⟨s', st2, r2, z, hsym, hr2, hst2, _, hrp⟩ := fits_sym (x := x) (b := sb) HPAR.out.1 HPAR.out.2.1 HPAR.out.2.2.1 HST.out.1 HST.out.2.1 (show H.length ≤ 1000000000 by omega) hf
          obtain ⟨bk, hbk, hbk2, hq03, hl273⟩ := dist_back HST.out.2.1 hf
          have HP := Lib.hid (put_yes HT.out.ms HPAR.out.1 HPAR.out.2.1 HPAR.out.2.2.1 HST.out.1 HST.out.2.1 (k := 100 * (60 - (n + 1)) + 100) AH H cH HBH.out HCH.out (by omega) (fun a e => fun hm => (HAH.out a e).2 (List.mem_append_left _ hm)) sk sb sl sd sq hf hsym ((encIo g).le HST.out.2.2 (by have := HN60.out; omega)))
          have HF := Lib.hid hf
          have HRP := Lib.hid hrp
          have HBK := Lib.hid (And.intro hbk (And.intro hbk2 (And.intro hq03 hl273)))
          have HST2 := Lib.hid hst2
          clear hf hsym hr2 hst2 hrp hbk hbk2 hq03 hl273
          obtain ⟨q0, q1, q2, q3, q4⟩ := HSYB.out _ HT.out.below
          go_wp2_with fail
          refine HP.out.mono ?_
          rintro e w5 ⟨⟨rfl, hw5⟩, _, _, _, _, hst12, hrg, hok5⟩
          obtain ⟨X5, hT5, hon5, hX5⟩ := HT.out.code hw5
          have HHI5 : Hid (HistAt w5 (.slice AH H.length cH) H ((C :: L :: X5) ++ Y)) := Lib.hid (HHI.out.only hon5 (fun i hi => List.mem_append_left _ hi) (fun i hi => by
            rcases List.mem_append.1 hi with h | h
            · simp only [List.mem_cons] at h
              rcases h with rfl | rfl | h
              · exact .inl (by simp)
              · exact .inl (by simp)
              · rcases hX5 i h with h | h
                · exact .inl (by simp [h])
                · exact .inr h
            · exact .inl (List.mem_append_right _ h)))
          have HT5 := Lib.hid hT5
          have HST5 := Lib.hid (And.intro hst12 (And.intro hrg hok5))
          obtain ⟨Pl, vR5, vP5, hco5⟩ := HT5.out.re.cod
          have HFI := Lib.hid (fits_any C2 base lc lp pb st r Pl vR5 vP5 AH H.length cH sk sb sl sd sq w5 hco5)
          rw [HF.out] at HFI
          clear q0 q1 q2 q3 q4
          clear hw5 hst12 hrg hok5 hT5 hon5 hX5 hco5
          obtain ⟨q0, q1, q2, q3, q4⟩ := HSYB.out _ HT5.out.below
          go_wp2_with fail
          refine HFI.out.mono ?_
          rintro e w6 ⟨rfl, hb6⟩
          have HT6 := Lib.hid (HT5.out.next hb6)
          have HHI6 := Lib.hid (HHI5.out.below hb6)
          obtain ⟨Pl6, vR6, vP6, hco6⟩ := HT6.out.re.cod
          have HDI := Lib.hid (dist_any C2 base lc lp pb st r Pl6 vR6 vP6 sk sb sl sd sq w6 hco6 HBK.out.2.2.1)
          rw [HBK.out.1] at HDI
          clear q0 q1 q2 q3 q4
          clear hb6 hco6
          obtain ⟨q0, q1, q2, q3, q4⟩ := HSYB.out _ HT6.out.below
          go_wp2_with fail
          refine HDI.out.mono ?_
          rintro e w7 ⟨rfl, hb7⟩
          have HT7 := Lib.hid (HT6.out.next hb7)
          have HHI7 := Lib.hid (HHI6.out.below hb7)
          obtain ⟨A7, c7, e7, hc7, _, hB7, hA7⟩ := HHI7.out
          injection e7 with e7 e7n e7c
          clear e7n
          subst e7 e7c
          have HRPC := Lib.hid (HRP.out C2 base h N Y w7 18 AH cH HT7.out.re HT7.out.base HN.out HN2.out ((encIo g).le HST.out.2.2 (by have := HN60.out; omega)) hB7 (fun a e => fun hm => (hA7 a e).2 (List.mem_append_right _ hm)) hc7)
          clear q0 q1 q2 q3 q4
          clear hb7 hc7 hB7 hA7
          obtain ⟨q0, q1, q2, q3, q4⟩ := HSYB.out _ HT7.out.below
          go_wp2_with fail
          refine HRPC.out.mono ?_
          rintro e w8 ⟨⟨rfl, hw8⟩, _⟩
          obtain ⟨Y8, hT8, hon8, hY8⟩ := HT7.out.ref hw8
          have HHI8 : Hid (HistAt w8 (.slice AH H.length cH) H ((C :: L :: X5) ++ Y8)) := Lib.hid (HHI7.out.only hon8 (fun i hi => List.mem_append_right _ hi) (fun i hi => by
            rcases List.mem_append.1 hi with h | h
            · exact .inl (List.mem_append_left _ h)
            · rcases hY8 i h with h | h
              · exact .inl (List.mem_append_right _ h)
              · exact .inr h))
          have HT8' := Lib.hid hT8
          obtain ⟨A8, c8, e8, hc8, _, hB8, _⟩ := HHI8.out
          injection e8 with e8 e8n e8c
          clear e8n
          subst e8 e8c
          obtain ⟨sl', hsl'⟩ : ∃ m : Nat, sk ≠ 0 → sl = (m : Int) ∧ m ≤ 273 := ⟨sl.toNat, fun h => by have := HBK.out.2.2.2 h; omega⟩
          have HGR : Hid (∃ H9 : List UInt8, H9.length ≤ H.length + 300 ∧ Calls Try.prog 15 #[.slice AH H.length cH, SyV sk sb sl sd sq, .int .i64 (bk : Nat)] w8 (GrowDone H9 w8)) := Lib.hid (by
            by_cases hk0 : sk = 0
            · exact ⟨growS H sk sb 0 bk, grow_length (fun h => absurd hk0 h), by
                have h := grow_lit AH H cH sb sl sd sq bk w8 hB8 hc8 HHL2.out
                subst hk0
                exact h⟩
            · obtain ⟨e, h273⟩ := hsl' hk0
              subst e
              exact ⟨growS H sk sb sl' bk, grow_length (fun _ => h273), grow_any AH H cH sk sb sl' sd sq bk w8 hB8 hc8 HHL2.out (by omega) HBK.out.2.1⟩)
          clear q0 q1 q2 q3 q4
          clear hw8 hT8 hon8 hY8 hc8 hB8 hsl'
          obtain ⟨H9, hH9, hgr⟩ := HGR.out
          have HGRC := Lib.hid hgr
          have HH9 := Lib.hid hH9
          clear hgr hH9 HGR
          obtain ⟨q0, q1, q2, q3, q4⟩ := HSYB.out _ HT8'.out.below
          go_wp2_with fail
          refine HGRC.out.mono ?_
          rintro e w9 ⟨v9, rfl, ho9, hb9⟩
          have HHI9 : Hid (HistAt w9 v9 H9 ((C :: L :: X5) ++ Y8)) := Lib.hid (hist_of_own ho9 (fun i hi => by
            rcases List.mem_append.1 hi with h | h
            · exact HT8'.out.ms.ltall i h
            · exact HT8'.out.re.lt i h))
          have HT8 := Lib.hid (HT8'.out.next hb9)
          clear q0 q1 q2 q3 q4
          clear ho9 hb9 HHI HHI5 HHI6 HHI7 HHI8 HT5 HT6 HT7 HT8' HP HFI HDI HRPC HGRC
          obtain ⟨Pl9, vR9, vP9, hco9⟩ := HT8.out.re.cod
          obtain ⟨gR, capR, eR, _, _, hcapR, _, hatR⟩ := hco9.reps.some_of_pos (show 0 < 4 by decide)
          subst eR
          have hrow9 := hco9.box
          have hClt : C2 < w9.heap.size := (Array.getElem?_eq_some_iff.1 hrow9).1
          have hgRlt : gR < w9.heap.size := block_lt_of_cell (hatR 0 (show 0 < 4 by decide))
          have HCL : Hid (∀ W, Below w9.heap.size w9 W → W.cell? ⟨C2, 3, none⟩ = some (.int .i64 (st2 : Nat)) ∧ W.cell? ⟨C2, 4, none⟩ = some (.slice (some ⟨gR, 0, none⟩) 4 capR)) := Lib.hid (fun W hW => by
            have e := (hW.block C2 hClt).trans hrow9
            exact ⟨by rw [cell_of_row W _ _ _ _ _ e]; rfl, by rw [cell_of_row W _ _ _ _ _ e]; rfl⟩)
          have HRC : Hid (∀ W, Below w9.heap.size w9 W → W.cell? ⟨gR, 0, none⟩ = some (.int .i64 r2.1) ∧ W.cell? ⟨gR, 1, none⟩ = some (.int .i64 r2.2.1) ∧ W.cell? ⟨gR, 2, none⟩ = some (.int .i64 r2.2.2.1) ∧ W.cell? ⟨gR, 3, none⟩ = some (.int .i64 r2.2.2.2)) := Lib.hid (fun W hW =>
            ⟨(hW.cell (p := ⟨gR, 0, none⟩) hgRlt).trans (hatR 0 (show 0 < 4 by decide)), (hW.cell (p := ⟨gR, 1, none⟩) hgRlt).trans (hatR 1 (show 1 < 4 by decide)), (hW.cell (p := ⟨gR, 2, none⟩) hgRlt).trans (hatR 2 (show 2 < 4 by decide)), (hW.cell (p := ⟨gR, 3, none⟩) hgRlt).trans (hatR 3 (show 3 < 4 by decide))⟩)
          have HCAP : Hid (4 ≤ capR) := Lib.hid hcapR
          have hdr : Below w9.heap.size w9 w9.drew := (Below.refl _ _).drew
          clear hco9 hatR hrow9 hClt hgRlt hcapR
          go_upto_region 22 with fail
          refine wp_region_held_drew (S := fun w2 => Below w9.heap.size w9 w2) (by kernel_rfl) hdr (fun hS => ?_)
          refine wpAnyH_take (i := 0) (oi := { dst := some 112, op := Op.move (Operand.tmp 18), type := 26, pos := "law.go:63", after := #[], guard := none }) (v := ?vpu1) rfl (by kernel_rfl) (by kernel_rfl) (by kernel_rfl) (fun _ _ _ h => h) (Or.inl ⟨by rfl, ?ypu1⟩) hS ?_
          case ypu1 =>
            intro w hSw
            go_simp; all_goals (with_reducible rfl)
          simp only [Act.put, List.setIfInBounds_toArray, List.set_cons_zero, List.set_cons_succ]
          refine wpAnyH_take (i := 1) (oi := { dst := some 113, op := Op.binOp BinOp.neq 26 (Operand.tmp 112) (Operand.const (Value.int IntKind.i64 0)) 26, type := 4, pos := "law.go:63", after := #[{ on := 0, ground := Ground.data }], guard := none }) (v := ?vpu2) rfl (by kernel_rfl) (by kernel_rfl) (by kernel_rfl) (fun _ _ _ h => h) (Or.inl ⟨by rfl, ?ypu2⟩) hS ?_
          case ypu2 =>
            intro w hSw
            go_simp; all_goals (with_reducible rfl)
          simp only [Act.put, List.setIfInBounds_toArray, List.set_cons_zero, List.set_cons_succ]
          refine wpAnyH_take (i := 2) (oi := { dst := some 114, op := Op.move (Operand.tmp 113), type := 4, pos := "law.go:63", after := #[{ on := 1, ground := Ground.data }], guard := none }) (v := ?vpu3) rfl (by kernel_rfl) (by kernel_rfl) (by kernel_rfl) (fun _ _ _ h => h) (Or.inl ⟨by rfl, ?ypu3⟩) hS ?_
          case ypu3 =>
            intro w hSw
            go_simp; all_goals (with_reducible rfl)
          simp only [Act.put, List.setIfInBounds_toArray, List.set_cons_zero, List.set_cons_succ]
          refine wpAnyH_take (i := 3) (oi := { dst := some 115, op := Op.move (Operand.tmp 11), type := 25, pos := "law.go:63", after := #[{ on := 2, ground := Ground.guard }], guard := some (2, false) }) (v := ?vpu4) rfl (by kernel_rfl) (by kernel_rfl) (by kernel_rfl) (fun _ _ _ h => h) (Or.inl ⟨by rfl, ?ypu4⟩) hS ?_
          case ypu4 =>
            intro w hSw
            go_simp; all_goals (with_reducible rfl)
          simp only [Act.put, List.setIfInBounds_toArray, List.set_cons_zero, List.set_cons_succ]
          refine wpAnyH_take (i := 5) (oi := { dst := some 117, op := Op.move (Operand.tmp 14), type := 32, pos := "law.go:63", after := #[{ on := 2, ground := Ground.guard }], guard := some (2, false) }) (v := ?vpu5) rfl (by kernel_rfl) (by kernel_rfl) (by kernel_rfl) (fun _ _ _ h => h) (Or.inl ⟨by rfl, ?ypu5⟩) hS ?_
          case ypu5 =>
            intro w hSw
            go_simp; all_goals (with_reducible rfl)
          simp only [Act.put, List.setIfInBounds_toArray, List.set_cons_zero, List.set_cons_succ]
          refine wpAnyH_take (i := 6) (oi := { dst := some 118, op := Op.nilCheck (Operand.tmp 117), type := 0, pos := "law.go:63", after := #[{ on := 5, ground := Ground.data }, { on := 2, ground := Ground.guard }], guard := some (2, false) }) (v := ?vpu6) rfl (by kernel_rfl) (by kernel_rfl) (by kernel_rfl) (fun _ _ _ h => h) (Or.inl ⟨by rfl, ?ypu6⟩) hS ?_
          case ypu6 =>
            intro w hSw
            go_simp; all_goals (with_reducible rfl)
          simp only [Act.put, List.setIfInBounds_toArray, List.set_cons_zero, List.set_cons_succ]
          refine wpAnyH_take (i := 7) (oi := { dst := some 119, op := Op.fieldAddr 47 (Operand.tmp 118) 3, type := 0, pos := "law.go:63", after := #[{ on := 6, ground := Ground.data }, { on := 2, ground := Ground.guard }], guard := some (2, false) }) (v := ?vpu7) rfl (by kernel_rfl) (by kernel_rfl) (by kernel_rfl) (fun _ _ _ h => h) (Or.inl ⟨by rfl, ?ypu7⟩) hS ?_
          case ypu7 =>
            intro w hSw
            go_simp; all_goals (with_reducible rfl)
          simp only [Act.put, List.setIfInBounds_toArray, List.set_cons_zero, List.set_cons_succ]
          refine wpAnyH_take (i := 8) (oi := { dst := some 120, op := Op.load 3 (Operand.tmp 119), type := 3, pos := "law.go:63", after := #[{ on := 7, ground := Ground.data }, { on := 2, ground := Ground.guard }], guard := some (2, false) }) (v := ?vpu8) rfl (by kernel_rfl) (by kernel_rfl) (by kernel_rfl) (fun _ _ _ h => h) (Or.inl ⟨by rfl, ?ypu8⟩) hS ?_
          case ypu8 =>
            intro w hSw
            obtain ⟨p3, p4⟩ := HCL.out w hSw
            go_simp; all_goals (with_reducible rfl)
          simp only [Act.put, List.setIfInBounds_toArray, List.set_cons_zero, List.set_cons_succ]
          refine wpAnyH_ready (rs := [4]) (by kernel_rfl) (by simp) ?_
          refine (AllReadyH.cons (o := { dst := some 116, op := Op.call { callee := Callee.value (Operand.func 16), args := #[Operand.tmp 115], argTypes := #[25] }, type := 3, pos := "law.go:63", after := #[{ on := 3, ground := Ground.data }, { on := 2, ground := Ground.chain }, { on := 2, ground := Ground.guard }], guard := some (2, false) }) rfl (fun K hK => ?_) AllReadyH.nil)
          go_simp
          refine (state_any (HT8.out.ms.below hdr).mod).mono ?_
          rintro e x4 ⟨rfl, rfl⟩
          go_wp2_with fail
          refine hK.out _ _ hS (fun _ => ?_)
          clear hK K
          refine wpAnyH_take (i := 9) (oi := { dst := some 121, op := Op.binOp BinOp.neq 3 (Operand.tmp 116) (Operand.tmp 120) 3, type := 4, pos := "law.go:63", after := #[{ on := 4, ground := Ground.data }, { on := 8, ground := Ground.data }, { on := 2, ground := Ground.guard }], guard := some (2, false) }) (v := ?vpu9) rfl (by kernel_rfl) (by kernel_rfl) (by kernel_rfl) (fun _ _ _ h => h) (Or.inl ⟨by rfl, ?ypu9⟩) hS ?_
          case ypu9 =>
            intro w hSw
            go_simp; all_goals (with_reducible rfl)
          simp only [Act.put, List.setIfInBounds_toArray, List.set_cons_zero, List.set_cons_succ]
          refine wpAnyH_take (i := 10) (oi := { dst := some 122, op := Op.pick (Operand.tmp 114) (Operand.const (Value.bool true)) (Operand.tmp 121), type := 4, pos := "law.go:63", after := #[{ on := 2, ground := Ground.data }, { on := 9, ground := Ground.data }], guard := none }) (v := ?vpu10) rfl (by kernel_rfl) (by kernel_rfl) (by kernel_rfl) (fun _ _ _ h => h) (Or.inl ⟨by rfl, ?ypu10⟩) hS ?_
          case ypu10 =>
            intro w hSw
            go_simp; all_goals (with_reducible rfl)
          simp only [Act.put, List.setIfInBounds_toArray, List.set_cons_zero, List.set_cons_succ]
          refine wpAnyH_take (i := 11) (oi := { dst := some 123, op := Op.move (Operand.tmp 122), type := 4, pos := "law.go:63", after := #[{ on := 10, ground := Ground.data }, { on := 4, ground := Ground.chain }], guard := none }) (v := ?vpu11) rfl (by kernel_rfl) (by kernel_rfl) (by kernel_rfl) (fun _ _ _ h => h) (Or.inl ⟨by rfl, ?ypu11⟩) hS ?_
          case ypu11 =>
            intro w hSw
            go_simp; all_goals (with_reducible rfl)
          simp only [Act.put, List.setIfInBounds_toArray, List.set_cons_zero, List.set_cons_succ]
          refine wpAnyH_take (i := 12) (oi := { dst := some 124, op := Op.move (Operand.tmp 11), type := 25, pos := "law.go:63", after := #[{ on := 11, ground := Ground.guard }], guard := some (11, false) }) (v := ?vpu12) rfl (by kernel_rfl) (by kernel_rfl) (by kernel_rfl) (fun _ _ _ h => h) (Or.inl ⟨by rfl, ?ypu12⟩) hS ?_
          case ypu12 =>
            intro w hSw
            go_simp; all_goals (with_reducible rfl)
          simp only [Act.put, List.setIfInBounds_toArray, List.set_cons_zero, List.set_cons_succ]
          refine wpAnyH_take (i := 14) (oi := { dst := some 126, op := Op.move (Operand.tmp 14), type := 32, pos := "law.go:63", after := #[{ on := 11, ground := Ground.guard }], guard := some (11, false) }) (v := ?vpu13) rfl (by kernel_rfl) (by kernel_rfl) (by kernel_rfl) (fun _ _ _ h => h) (Or.inl ⟨by rfl, ?ypu13⟩) hS ?_
          case ypu13 =>
            intro w hSw
            go_simp; all_goals (with_reducible rfl)
          simp only [Act.put, List.setIfInBounds_toArray, List.set_cons_zero, List.set_cons_succ]
          refine wpAnyH_take (i := 15) (oi := { dst := some 127, op := Op.nilCheck (Operand.tmp 126), type := 0, pos := "law.go:63", after := #[{ on := 14, ground := Ground.data }, { on := 11, ground := Ground.guard }], guard := some (11, false) }) (v := ?vpu14) rfl (by kernel_rfl) (by kernel_rfl) (by kernel_rfl) (fun _ _ _ h => h) (Or.inl ⟨by rfl, ?ypu14⟩) hS ?_
          case ypu14 =>
            intro w hSw
            go_simp; all_goals (with_reducible rfl)
          simp only [Act.put, List.setIfInBounds_toArray, List.set_cons_zero, List.set_cons_succ]
          refine wpAnyH_take (i := 16) (oi := { dst := some 128, op := Op.fieldAddr 47 (Operand.tmp 127) 4, type := 0, pos := "law.go:63", after := #[{ on := 15, ground := Ground.data }, { on := 11, ground := Ground.guard }], guard := some (11, false) }) (v := ?vpu15) rfl (by kernel_rfl) (by kernel_rfl) (by kernel_rfl) (fun _ _ _ h => h) (Or.inl ⟨by rfl, ?ypu15⟩) hS ?_
          case ypu15 =>
            intro w hSw
            go_simp; all_goals (with_reducible rfl)
          simp only [Act.put, List.setIfInBounds_toArray, List.set_cons_zero, List.set_cons_succ]
          refine wpAnyH_take (i := 17) (oi := { dst := some 129, op := Op.load 44 (Operand.tmp 128), type := 44, pos := "law.go:63", after := #[{ on := 16, ground := Ground.data }, { on := 11, ground := Ground.guard }], guard := some (11, false) }) (v := ?vpu16) rfl (by kernel_rfl) (by kernel_rfl) (by kernel_rfl) (fun _ _ _ h => h) (Or.inl ⟨by rfl, ?ypu16⟩) hS ?_
          case ypu16 =>
            intro w hSw
            obtain ⟨p3, p4⟩ := HCL.out w hSw
            go_simp; all_goals (with_reducible rfl)
          simp only [Act.put, List.setIfInBounds_toArray, List.set_cons_zero, List.set_cons_succ]
          refine wpAnyH_ready (rs := [13]) (by kernel_rfl) (by simp) ?_
          refine (AllReadyH.cons (o := { dst := some 125, op := Op.call { callee := Callee.value (Operand.func 18), args := #[Operand.tmp 124], argTypes := #[25] }, type := 49, pos := "law.go:63", after := #[{ on := 12, ground := Ground.data }, { on := 11, ground := Ground.chain }, { on := 11, ground := Ground.guard }], guard := some (11, false) }) rfl (fun K hK => ?_) AllReadyH.nil)
          go_simp
          refine (repeats_any (HT8.out.ms.below hdr).mod).mono ?_
          rintro e x13 ⟨rfl, hb13⟩
          have g13 := hdr.trans (hb13.mono hdr.size)
          clear hb13
          go_wp2_with fail
          refine hK.out _ _ g13 (fun _ => ?_)
          clear hK K
          refine wpAnyH_ready (rs := [18]) (by kernel_rfl) (by simp) ?_
          refine (AllReadyH.cons (o := { dst := some 130, op := Op.call { callee := Callee.value (Operand.func 17), args := #[Operand.tmp 125, Operand.tmp 129], argTypes := #[49, 44] }, type := 4, pos := "law.go:63", after := #[{ on := 13, ground := Ground.data }, { on := 17, ground := Ground.data }, { on := 13, ground := Ground.chain }, { on := 11, ground := Ground.guard }], guard := some (11, false) }) rfl (fun K hK => ?_) AllReadyH.nil)
          go_simp
          obtain ⟨b0, b1, b2, b3⟩ := HRC.out x13 g13
          refine (repeats_same r2 gR capR x13 HCAP.out b0 b1 b2 b3).mono ?_
          rintro e x18 ⟨rfl, hb18⟩
          have g18 := g13.trans (hb18.mono g13.size)
          clear hb18 b0 b1 b2 b3
          go_wp2_with fail
          refine hK.out _ _ g18 (fun _ => ?_)
          clear hK K
          refine wpAnyH_take (i := 19) (oi := { dst := some 131, op := Op.unOp UnOp.not 4 (Operand.tmp 130), type := 4, pos := "law.go:63", after := #[{ on := 18, ground := Ground.data }, { on := 11, ground := Ground.guard }], guard := some (11, false) }) (v := ?vpu17) rfl (by kernel_rfl) (by kernel_rfl) (by kernel_rfl) (fun _ _ _ h => h) (Or.inl ⟨by rfl, ?ypu17⟩) g18 ?_
          case ypu17 =>
            intro w hSw
            go_simp; all_goals (with_reducible rfl)
          simp only [Act.put, List.setIfInBounds_toArray, List.set_cons_zero, List.set_cons_succ]
          refine wpAnyH_take (i := 20) (oi := { dst := some 132, op := Op.pick (Operand.tmp 123) (Operand.const (Value.bool true)) (Operand.tmp 131), type := 4, pos := "law.go:63", after := #[{ on := 11, ground := Ground.data }, { on := 19, ground := Ground.data }], guard := none }) (v := ?vpu18) rfl (by kernel_rfl) (by kernel_rfl) (by kernel_rfl) (fun _ _ _ h => h) (Or.inl ⟨by rfl, ?ypu18⟩) g18 ?_
          case ypu18 =>
            intro w hSw
            go_simp; all_goals (with_reducible rfl)
          simp only [Act.put, List.setIfInBounds_toArray, List.set_cons_zero, List.set_cons_succ]
          refine wpAnyH_done (by kernel_rfl) ?_ _

          have HT10 := Lib.hid (HT8.out.next g18)
          have HHI10 := Lib.hid (HHI9.out.below g18)
          clear hS g13 g18 hdr
          go_wp2_with fail
          exact ⟨⟨n + 1, H9, v9, st2, r2, z, X5, Y8, rfl, by go_num, by omega, Lib.hid (by have := HHL.out; have := HH9.out; omega), HST5, HT10, HHI10⟩, by simp [intOf]; have := HN60.out; omega⟩
      · have hnlb : decide ((n : Int) < (l.length : Int)) = false := decide_eq_false (by omega)
        obtain ⟨hv9, hKE, hKE2⟩ := enc_ok_small ((encIo g).le HST.out.2.2 (show 100 ≤ _ by omega))
        obtain ⟨oE, capE, _, hE⟩ := HT.out.ms.io
        obtain ⟨_, _, _, _, _, oR, capR2, _, _, hR, _⟩ := HT.out.re.ex
        have HRL : Hid (h < wr.heap.size ∧ oR < wr.heap.size) := Lib.hid ⟨(Array.getElem?_eq_some_iff.1 hR.blk).1, by obtain ⟨cs, hcs⟩ := hR.row; exact (Array.getElem?_eq_some_iff.1 hcs).1⟩
        have HVE := Lib.hid hv9
        have HKE := Lib.hid hKE
        have HKE2 := Lib.hid hKE2
        have hdr : Below wr.heap.size wr wr.drew := (Below.refl _ _).drew
        clear hv9 hKE hKE2
        go_upto_region 24 with fail
        refine wp_region_held_drew (S := fun w2 => Below wr.heap.size wr w2) (by kernel_rfl) hdr (fun hS => ?_)
        refine wpAnyH_take (i := 0) (oi := { dst := some 133, op := Op.move (Operand.tmp 13), type := 30, pos := "law.go:67", after := #[], guard := none }) (v := ?vpv19) rfl (by kernel_rfl) (by kernel_rfl) (by kernel_rfl) (fun _ _ _ h => h) (Or.inl ⟨by rfl, ?ypv19⟩) hS ?_
        case ypv19 =>
          intro w hSw
          go_simp; all_goals (with_reducible rfl)
        simp only [Act.put, List.setIfInBounds_toArray, List.set_cons_zero, List.set_cons_succ]
        refine wpAnyH_take (i := 3) (oi := { dst := some 136, op := Op.move (Operand.tmp 15), type := 34, pos := "law.go:67", after := #[], guard := none }) (v := ?vpv20) rfl (by kernel_rfl) (by kernel_rfl) (by kernel_rfl) (fun _ _ _ h => h) (Or.inl ⟨by rfl, ?ypv20⟩) hS ?_
        case ypv20 =>
          intro w hSw
          go_simp; all_goals (with_reducible rfl)
        simp only [Act.put, List.setIfInBounds_toArray, List.set_cons_zero, List.set_cons_succ]
        refine wpAnyH_ready (rs := [1]) (by kernel_rfl) (by simp) ?_
        refine (AllReadyH.cons (o := { dst := some 134, op := Op.call { callee := Callee.value (Operand.func 19), args := #[Operand.tmp 133], argTypes := #[30] }, type := 22, pos := "law.go:67", after := #[{ on := 0, ground := Ground.data }], guard := none }) rfl (fun K hK => ?_) AllReadyH.nil)
        go_simp
        refine (bytes_any g oE capE x.2 _ (hE.below hdr) HKE.out).mono ?_
        rintro e w5 ⟨v5, rfl, hO5, hb5⟩
        obtain ⟨A5, c5, rfl, _, _, hB5⟩ := hO5.read
        have g5 := hdr.trans (hb5.mono hdr.size)
        have k5 := run_str hB5 c5
        go_wp2_with fail
        refine hK.out _ _ g5 (fun _ => ?_)
        clear hK K
        refine wpAnyH_ready (rs := [2, 4]) (by kernel_rfl) (by simp) ?_
        refine (AllReadyH.cons (o := { dst := some 135, op := Op.convert 22 9 (Operand.tmp 134), type := 9, pos := "law.go:67", after := #[{ on := 1, ground := Ground.data }], guard := none }) rfl (fun K hK => ?_) (AllReadyH.cons (o := { dst := some 137, op := Op.call { callee := Callee.value (Operand.func 20), args := #[Operand.tmp 136], argTypes := #[34] }, type := 22, pos := "law.go:67", after := #[{ on := 3, ground := Ground.data }, { on := 1, ground := Ground.chain }], guard := none }) rfl (fun K hK => ?_) AllReadyH.nil))
        · skip
          go_simp
          refine hK.out _ _ g5 (fun _ => ?_)
          clear hK K
          refine wpAnyH_ready (rs := [4]) (by kernel_rfl) (by simp) ?_
          refine (AllReadyH.cons (o := { dst := some 137, op := Op.call { callee := Callee.value (Operand.func 20), args := #[Operand.tmp 136], argTypes := #[34] }, type := 22, pos := "law.go:67", after := #[{ on := 3, ground := Ground.data }, { on := 1, ground := Ground.chain }], guard := none }) rfl (fun K hK => ?_) AllReadyH.nil)
          go_simp
          refine (rbytes_any h oR capR2 x.2 _ (hR.keep2 (g5.block _ HRL.out.1) (g5.block _ HRL.out.2)) HVE.out HKE2.out).mono ?_
          rintro e w6 ⟨v6, rfl, hO6, hb6⟩
          obtain ⟨A6, c6, rfl, _, _, hB6⟩ := hO6.read
          have g6 := g5.trans (hb6.mono g5.size)
          have k6 := run_str hB6 c6
          have k5 := run_str (hB5.below hb6) c5
          go_wp2_with fail
          refine hK.out _ _ g6 (fun _ => ?_)
          clear hK K
          refine wpAnyH_ready (rs := [5]) (by kernel_rfl) (by simp) ?_
          refine (AllReadyH.cons (o := { dst := some 138, op := Op.convert 22 9 (Operand.tmp 137), type := 9, pos := "law.go:67", after := #[{ on := 4, ground := Ground.data }], guard := none }) rfl (fun K hK => ?_) AllReadyH.nil)
          go_simp
          refine hK.out _ _ g6 (fun _ => ?_)
          clear hK K
          refine wpAnyH_ready (rs := [6]) (by kernel_rfl) (by simp) ?_
          refine (AllReadyH.cons (o := { dst := some 139, op := Op.binOp BinOp.eql 9 (Operand.tmp 135) (Operand.tmp 138) 9, type := 4, pos := "law.go:67", after := #[{ on := 2, ground := Ground.data }, { on := 5, ground := Ground.data }], guard := none }) rfl (fun K hK => ?_) AllReadyH.nil)
          go_simp
          refine hK.out _ _ g6 (fun _ => ?_)
          clear hK K
          refine wpAnyH_ready (rs := [7]) (by kernel_rfl) (by simp) ?_
          refine (AllReadyH.cons (o := { dst := some 140, op := Op.move (Operand.tmp 139), type := 4, pos := "law.go:67", after := #[{ on := 6, ground := Ground.data }, { on := 4, ground := Ground.chain }], guard := none }) rfl (fun K hK => ?_) AllReadyH.nil)
          go_simp
          refine hK.out _ _ g6 (fun _ => ?_)
          clear hK K
          refine wpAnyH_ready (rs := [8]) (by kernel_rfl) (by simp) ?_
          refine (AllReadyH.cons (o := { dst := some 141, op := Op.call { callee := Callee.value (Operand.func 5), args := #[], argTypes := #[] }, type := 4, pos := "law.go:67", after := #[{ on := 7, ground := Ground.chain }, { on := 7, ground := Ground.guard }], guard := some (7, true) }) rfl (fun K hK => ?_) AllReadyH.nil)
          go_simp
          refine (knows_any _).mono ?_
          rintro e w7 ⟨rfl, hb7⟩
          have g7 := g6.trans (hb7.mono g6.size)
          go_wp2_with fail
          refine hK.out _ _ g7 (fun _ => ?_)
          clear hK K
          refine wpAnyH_ready (rs := [9]) (by kernel_rfl) (by simp) ?_
          refine (AllReadyH.cons (o := { dst := some 142, op := Op.pick (Operand.tmp 140) (Operand.tmp 141) (Operand.const (Value.bool false)), type := 4, pos := "law.go:67", after := #[{ on := 7, ground := Ground.data }, { on := 8, ground := Ground.data }], guard := none }) rfl (fun K hK => ?_) AllReadyH.nil)
          go_simp
          refine hK.out _ _ g7 (fun _ => ?_)
          clear hK K
          refine wpAnyH_ready (rs := [10]) (by kernel_rfl) (by simp) ?_
          refine (AllReadyH.cons (o := { dst := some 10, op := Op.assign (Operand.tmp 142), type := 4, pos := "law.go:67", after := #[{ on := 9, ground := Ground.data }, { on := 8, ground := Ground.chain }, { on := 0, ground := Ground.phase }, { on := 1, ground := Ground.phase }, { on := 2, ground := Ground.phase }, { on := 3, ground := Ground.phase }, { on := 4, ground := Ground.phase }, { on := 5, ground := Ground.phase }, { on := 6, ground := Ground.phase }, { on := 7, ground := Ground.phase }, { on := 8, ground := Ground.phase }, { on := 9, ground := Ground.phase }], guard := none }) rfl (fun K hK => ?_) AllReadyH.nil)
          go_simp
          refine hK.out _ _ g7 (fun _ => ?_)
          clear hK K
          refine wpAnyH_done (by kernel_rfl) ?_ _
          go_wp2_with fail
          go_ret
          exact ⟨rfl, HT.out.below.trans (g7.mono HT.out.below.size)⟩
        · skip
          go_simp
          refine (rbytes_any h oR capR2 x.2 _ (hR.keep2 (g5.block _ HRL.out.1) (g5.block _ HRL.out.2)) HVE.out HKE2.out).mono ?_
          rintro e w6 ⟨v6, rfl, hO6, hb6⟩
          obtain ⟨A6, c6, rfl, _, _, hB6⟩ := hO6.read
          have g6 := g5.trans (hb6.mono g5.size)
          have k6 := run_str hB6 c6
          have k5 := run_str (hB5.below hb6) c5
          go_wp2_with fail
          refine hK.out _ _ g6 (fun _ => ?_)
          clear hK K
          refine wpAnyH_ready (rs := [2, 5]) (by kernel_rfl) (by simp) ?_
          refine (AllReadyH.cons (o := { dst := some 135, op := Op.convert 22 9 (Operand.tmp 134), type := 9, pos := "law.go:67", after := #[{ on := 1, ground := Ground.data }], guard := none }) rfl (fun K hK => ?_) (AllReadyH.cons (o := { dst := some 138, op := Op.convert 22 9 (Operand.tmp 137), type := 9, pos := "law.go:67", after := #[{ on := 4, ground := Ground.data }], guard := none }) rfl (fun K hK => ?_) AllReadyH.nil))
          · skip
            go_simp
            refine hK.out _ _ g6 (fun _ => ?_)
            clear hK K
            refine wpAnyH_ready (rs := [5]) (by kernel_rfl) (by simp) ?_
            refine (AllReadyH.cons (o := { dst := some 138, op := Op.convert 22 9 (Operand.tmp 137), type := 9, pos := "law.go:67", after := #[{ on := 4, ground := Ground.data }], guard := none }) rfl (fun K hK => ?_) AllReadyH.nil)
            go_simp
            refine hK.out _ _ g6 (fun _ => ?_)
            clear hK K
            refine wpAnyH_ready (rs := [6]) (by kernel_rfl) (by simp) ?_
            refine (AllReadyH.cons (o := { dst := some 139, op := Op.binOp BinOp.eql 9 (Operand.tmp 135) (Operand.tmp 138) 9, type := 4, pos := "law.go:67", after := #[{ on := 2, ground := Ground.data }, { on := 5, ground := Ground.data }], guard := none }) rfl (fun K hK => ?_) AllReadyH.nil)
            go_simp
            refine hK.out _ _ g6 (fun _ => ?_)
            clear hK K
            refine wpAnyH_ready (rs := [7]) (by kernel_rfl) (by simp) ?_
            refine (AllReadyH.cons (o := { dst := some 140, op := Op.move (Operand.tmp 139), type := 4, pos := "law.go:67", after := #[{ on := 6, ground := Ground.data }, { on := 4, ground := Ground.chain }], guard := none }) rfl (fun K hK => ?_) AllReadyH.nil)
            go_simp
            refine hK.out _ _ g6 (fun _ => ?_)
            clear hK K
            refine wpAnyH_ready (rs := [8]) (by kernel_rfl) (by simp) ?_
            refine (AllReadyH.cons (o := { dst := some 141, op := Op.call { callee := Callee.value (Operand.func 5), args := #[], argTypes := #[] }, type := 4, pos := "law.go:67", after := #[{ on := 7, ground := Ground.chain }, { on := 7, ground := Ground.guard }], guard := some (7, true) }) rfl (fun K hK => ?_) AllReadyH.nil)
            go_simp
            refine (knows_any _).mono ?_
            rintro e w7 ⟨rfl, hb7⟩
            have g7 := g6.trans (hb7.mono g6.size)
            go_wp2_with fail
            refine hK.out _ _ g7 (fun _ => ?_)
            clear hK K
            refine wpAnyH_ready (rs := [9]) (by kernel_rfl) (by simp) ?_
            refine (AllReadyH.cons (o := { dst := some 142, op := Op.pick (Operand.tmp 140) (Operand.tmp 141) (Operand.const (Value.bool false)), type := 4, pos := "law.go:67", after := #[{ on := 7, ground := Ground.data }, { on := 8, ground := Ground.data }], guard := none }) rfl (fun K hK => ?_) AllReadyH.nil)
            go_simp
            refine hK.out _ _ g7 (fun _ => ?_)
            clear hK K
            refine wpAnyH_ready (rs := [10]) (by kernel_rfl) (by simp) ?_
            refine (AllReadyH.cons (o := { dst := some 10, op := Op.assign (Operand.tmp 142), type := 4, pos := "law.go:67", after := #[{ on := 9, ground := Ground.data }, { on := 8, ground := Ground.chain }, { on := 0, ground := Ground.phase }, { on := 1, ground := Ground.phase }, { on := 2, ground := Ground.phase }, { on := 3, ground := Ground.phase }, { on := 4, ground := Ground.phase }, { on := 5, ground := Ground.phase }, { on := 6, ground := Ground.phase }, { on := 7, ground := Ground.phase }, { on := 8, ground := Ground.phase }, { on := 9, ground := Ground.phase }], guard := none }) rfl (fun K hK => ?_) AllReadyH.nil)
            go_simp
            refine hK.out _ _ g7 (fun _ => ?_)
            clear hK K
            refine wpAnyH_done (by kernel_rfl) ?_ _
            go_wp2_with fail
            go_ret
            exact ⟨rfl, HT.out.below.trans (g7.mono HT.out.below.size)⟩
          · skip
            go_simp
            refine hK.out _ _ g6 (fun _ => ?_)
            clear hK K
            refine wpAnyH_ready (rs := [2]) (by kernel_rfl) (by simp) ?_
            refine (AllReadyH.cons (o := { dst := some 135, op := Op.convert 22 9 (Operand.tmp 134), type := 9, pos := "law.go:67", after := #[{ on := 1, ground := Ground.data }], guard := none }) rfl (fun K hK => ?_) AllReadyH.nil)
            go_simp
            refine hK.out _ _ g6 (fun _ => ?_)
            clear hK K
            refine wpAnyH_ready (rs := [6]) (by kernel_rfl) (by simp) ?_
            refine (AllReadyH.cons (o := { dst := some 139, op := Op.binOp BinOp.eql 9 (Operand.tmp 135) (Operand.tmp 138) 9, type := 4, pos := "law.go:67", after := #[{ on := 2, ground := Ground.data }, { on := 5, ground := Ground.data }], guard := none }) rfl (fun K hK => ?_) AllReadyH.nil)
            go_simp
            refine hK.out _ _ g6 (fun _ => ?_)
            clear hK K
            refine wpAnyH_ready (rs := [7]) (by kernel_rfl) (by simp) ?_
            refine (AllReadyH.cons (o := { dst := some 140, op := Op.move (Operand.tmp 139), type := 4, pos := "law.go:67", after := #[{ on := 6, ground := Ground.data }, { on := 4, ground := Ground.chain }], guard := none }) rfl (fun K hK => ?_) AllReadyH.nil)
            go_simp
            refine hK.out _ _ g6 (fun _ => ?_)
            clear hK K
            refine wpAnyH_ready (rs := [8]) (by kernel_rfl) (by simp) ?_
            refine (AllReadyH.cons (o := { dst := some 141, op := Op.call { callee := Callee.value (Operand.func 5), args := #[], argTypes := #[] }, type := 4, pos := "law.go:67", after := #[{ on := 7, ground := Ground.chain }, { on := 7, ground := Ground.guard }], guard := some (7, true) }) rfl (fun K hK => ?_) AllReadyH.nil)
            go_simp
            refine (knows_any _).mono ?_
            rintro e w7 ⟨rfl, hb7⟩
            have g7 := g6.trans (hb7.mono g6.size)
            go_wp2_with fail
            refine hK.out _ _ g7 (fun _ => ?_)
            clear hK K
            refine wpAnyH_ready (rs := [9]) (by kernel_rfl) (by simp) ?_
            refine (AllReadyH.cons (o := { dst := some 142, op := Op.pick (Operand.tmp 140) (Operand.tmp 141) (Operand.const (Value.bool false)), type := 4, pos := "law.go:67", after := #[{ on := 7, ground := Ground.data }, { on := 8, ground := Ground.data }], guard := none }) rfl (fun K hK => ?_) AllReadyH.nil)
            go_simp
            refine hK.out _ _ g7 (fun _ => ?_)
            clear hK K
            refine wpAnyH_ready (rs := [10]) (by kernel_rfl) (by simp) ?_
            refine (AllReadyH.cons (o := { dst := some 10, op := Op.assign (Operand.tmp 142), type := 4, pos := "law.go:67", after := #[{ on := 9, ground := Ground.data }, { on := 8, ground := Ground.chain }, { on := 0, ground := Ground.phase }, { on := 1, ground := Ground.phase }, { on := 2, ground := Ground.phase }, { on := 3, ground := Ground.phase }, { on := 4, ground := Ground.phase }, { on := 5, ground := Ground.phase }, { on := 6, ground := Ground.phase }, { on := 7, ground := Ground.phase }, { on := 8, ground := Ground.phase }, { on := 9, ground := Ground.phase }], guard := none }) rfl (fun K hK => ?_) AllReadyH.nil)
            go_simp
            refine hK.out _ _ g7 (fun _ => ?_)
            clear hK K
            refine wpAnyH_done (by kernel_rfl) ?_ _
            go_wp2_with fail
            go_ret
            exact ⟨rfl, HT.out.below.trans (g7.mono HT.out.below.size)⟩
end Go.Proofs.Ytiodlhieaajcgaa
