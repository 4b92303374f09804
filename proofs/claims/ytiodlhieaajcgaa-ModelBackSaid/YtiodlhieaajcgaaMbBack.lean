/- ModelBack: for every input the law returns true. -/
import Derived.Test.YtiodlhieaajcgaaMbMemAll
import Derived.Test.YtiodlhieaajcgaaMlPuts
import Derived.Deep.RegionHeld3
namespace Go.Proofs.Ytiodlhieaajcgaa
open Go.RowKit

theorem HistIn.bytes {w : World} {A : Option Addr} {c : Nat} {H : List UInt8} {Y : List Nat} (h : HistIn w (.slice A H.length c) H Y) : Bytes w A H ∧ ∀ a, A = some a → a.block ∈ Y := by
  obtain ⟨A', c', e, _, _, hB, hA⟩ := h
  injection e with e1 _ e3
  subst e1
  exact ⟨hB, hA⟩
theorem sy_cells_alloc (w : World) (s : Sy) : (w.alloc (.cells #[.int .i64 (s.k : Nat), .int .u8 (s.b.toNat : Nat), .int .i64 (s.l : Nat), .int .i64 (s.d : Nat), .int .i64 (s.r : Nat)] 38)).heap[w.heap.size]? = some (.cells (syCells [s]).toArray 38 (0, 0)) := heap_alloc_last _ _
theorem becomes_sy2 {C base : Nat} {lc lp pb : Int} {st : Nat} {r : R4} {P : List Nat} {vR vP : Value} {s : Sy} {w : World} (hC : CodAt w C base lc lp pb (st : Nat) r P vR vP) (hbase : base ≤ w.heap.size) (hst : st < 12) (hk : s.k ≤ 2) (hq : s.r ≤ 3) :
    Calls Try.prog 21 #[PF C, s.val] w (BecDone2 C base lc lp pb (stateAfter (st : Nat) (s.k : Nat) (s.l : Nat)) (repsAfter r (s.k : Nat) (s.d : Nat) (s.r : Nat)) P vR vP w) := by
  obtain ⟨k, b, l, d, q⟩ := s
  simp only at hk hq
  rcases (by omega : k = 0 ∨ k = 1 ∨ k = 2) with rfl | rfl | rfl
  · exact becomes_lit2 C base lc lp pb (st : Nat) r P vR vP b _ _ _ w hC (by omega) (by omega)
  · exact becomes_match2 C base lc lp pb (st : Nat) r P vR vP b _ _ _ w hC hbase
  · exact becomes_rep2 C base lc lp pb (st : Nat) r P vR vP b _ _ q w hC hbase hq
theorem sy_grow {w : World} {A : Option Addr} {H : List UInt8} {c : Nat} {k : Int} {b : UInt8} {l d q : Int} {bk : Nat} (hB : Bytes w A H) (hc : H.length ≤ c) (hH : H.length ≤ 1000000) (h1 : k ≠ 0 → 1 ≤ bk ∧ bk ≤ H.length) (h2 : k ≠ 0 → 1 ≤ l ∧ l ≤ 273) :
    (growS H k b l.toNat bk).length ≤ H.length + 300 ∧ Calls Try.prog 15 #[.slice A H.length c, SyV k b l d q, .int .i64 (bk : Nat)] w (GrowDone (growS H k b l.toNat bk) w) := by
  by_cases hk : k = 0
  · subst hk
    refine ⟨grow_length (fun h => absurd rfl h), ?_⟩
    rw [growS_zero H b l.toNat 0 bk bk]
    exact grow_lit A H c b l d q bk w hB hc hH
  · obtain ⟨m, rfl⟩ : ∃ m : Nat, l = (m : Int) := ⟨l.toNat, by have := h2 hk; omega⟩
    have hm := h2 hk
    rw [Int.toNat_natCast]
    exact ⟨grow_length (fun _ => by omega), grow_any A H c k b m d q bk w hB hc hH (by omega) h1⟩
set_option maxRecDepth 100000 in
set_option maxHeartbeats 4000000 in
theorem back_law (lc lp pb : Int) (A : Option Addr) (H0 : List UInt8) (c : Nat) (A1 : Option Addr) (l : List SyI) (c1 : Nat) (w : World) (_ : -9223372036854775808 ≤ lc) (_ : lc ≤ 9223372036854775807) (_ : -9223372036854775808 ≤ lp) (_ : lp ≤ 9223372036854775807) (_ : -9223372036854775808 ≤ pb) (_ : pb ≤ 9223372036854775807)
    (hB : Bytes w A H0 ∧ ∀ a, A = some a → a.block < w.heap.size) (hc : H0.length ≤ c) (hm : c ≤ 9223372036854775807) (hS : Syms w A1 l) (hc1 : l.length ≤ c1) (hm1 : c1 ≤ 9223372036854775807) :
    Calls Try.prog 4 #[.int .i64 lc, .int .i64 lp, .int .i64 pb, .slice A H0.length c, .slice A1 l.length c1] w (Holds w) := by
  have hmi : (H0.length : Int) ≤ 9223372036854775807 := by omega
  have hmi1 : (l.length : Int) ≤ 9223372036854775807 := by omega
  by_cases hout : (500 : Int) < (H0.length : Int) ∨ (60 : Int) < (l.length : Int)
  · have hs : ((500 : Int) < (H0.length : Int)) ∨ (¬ (500 : Int) < (H0.length : Int) ∧ (60 : Int) < (l.length : Int)) := by omega
    clear hout hB hS
    rcases hs with g1 | ⟨g1, g2⟩
    all_goals
      go_enter Try.func4, Try.ntmps4
      go_wp2_with fail
      refine (knows_any _).mono ?_
      rintro e w1 ⟨rfl, hb⟩
      go_wp2_with fail
      go_ret
      exact ⟨rfl, hb⟩
  have i1 : ¬ (500 : Int) < (H0.length : Int) := by omega
  have i2 : ¬ (60 : Int) < (l.length : Int) := by omega
  have hMAY := Lib.hid (fun w => may_any lc lp pb w)
  cases hp : permB lc lp pb with
  | false =>
    rw [hp] at hMAY
    clear hp hB hS hout
    go_enter Try.func4, Try.ntmps4
    go_wp2_with fail
    refine (hMAY.out _).mono ?_
    rintro e w2 ⟨rfl, rfl⟩
    go_wp2_with fail
    refine (knows_any _).mono ?_
    rintro e w3 ⟨rfl, hb⟩
    go_wp2_with fail
    go_ret
    exact ⟨rfl, hb⟩
  | true =>
    rw [hp] at hMAY
    have hp' := of_decide_eq_true hp
    clear hp
    obtain ⟨lc, rfl⟩ : ∃ n : Nat, lc = n := ⟨lc.toNat, by omega⟩
    obtain ⟨lp, rfl⟩ : ∃ n : Nat, lp = n := ⟨lp.toNat, by omega⟩
    obtain ⟨pb, rfl⟩ : ∃ n : Nat, pb = n := ⟨pb.toNat, by omega⟩
    have hlc : lc ≤ 4 := by omega
    have hlp : lp ≤ 4 := by omega
    have hpb : pb ≤ 4 := by omega
    have hlcp : lc + lp ≤ 4 := by omega
    have HNG := Lib.hid (fun w => mnew_good lc lp pb w hlc hlp hpb hlcp)
    have HPAR := Lib.hid (And.intro hlc (And.intro hlp (And.intro hpb hlcp)))
    have HNC := Lib.hid (fun w => newC_any lc lp pb (by omega) w)
    have HSYM := Lib.hid (fun (n : Nat) (hn : n < l.length) => syms_at hS hn)
    have HB := Lib.hid hB
    have HC := Lib.hid hc
    have HCM := Lib.hid hm
    have hli : (l.length : Int) ≤ 60 := by omega
    have hl60 : l.length ≤ 60 := by omega
    have hHi : (H0.length : Int) ≤ 500 := by omega
    have hH500 : H0.length ≤ 500 := by omega
    have HL60 := Lib.hid hl60
    have HH500 := Lib.hid hH500
    have e01 : decide ((500 : Int) < (H0.length : Int)) = false := decide_eq_false i1
    have e02 : decide ((60 : Int) < (l.length : Int)) = false := decide_eq_false i2
    have hc1i : (l.length : Int) ≤ (c1 : Int) := by omega
    clear hp' hB hS hout hlc hlp hpb hlcp hl60 hH500 i1 i2 hc hm
    go_enter Try.func4, Try.ntmps4
    go_wp2_with fail
    refine (hMAY.out _).mono ?_
    rintro e w1' ⟨rfl, rfl⟩
    go_wp2_with fail
    refine (HNG.out _).mono ?_
    rintro e w1 ⟨C, L, rfl, hM, hb1, hC, hL⟩
    have HM := Lib.hid (And.intro hM (And.intro hb1 (And.intro hC hL)))
    clear hM hb1 hC hL
    go_wp2_with fail
    refine (HNG.out _).mono ?_
    rintro e w2 ⟨D, Mb, rfl, hM, hb1, hC, hL⟩
    have HD := Lib.hid (And.intro hM (And.intro hb1 (And.intro hC hL)))
    clear hM hb1 hC hL
    go_wp2_with fail
    refine (new_any _).mono ?_
    rintro e w3 ⟨g, oE, capE, rfl, hE, hb3, hg, ho⟩
    have HE := Lib.hid (And.intro hE (And.intro hb3 (And.intro hg ho)))
    clear hE hb3 hg ho
    go_wp2_with fail
    refine (HNC.out w3).mono ?_
    rintro e w4 ⟨C2, vR, vP, rfl, hco, hb4, hC2⟩
    obtain ⟨p, hT, hp4⟩ := lp_start1 HM.out.1 HM.out.2.1 HM.out.2.2.1 HM.out.2.2.2 HD.out.1 HD.out.2.1 HD.out.2.2.1 HD.out.2.2.2 HE.out.1 HE.out.2.1 HE.out.2.2.1 HE.out.2.2.2 hco hb4 hC2 HB.out.1 HB.out.2 HC.out HCM.out
    have HT := Lib.hid hT
    have HP4 := Lib.hid hp4
    have HDL : Hid (w.heap.size ≤ D ∧ w.heap.size ≤ Mb) := Lib.hid ⟨Nat.le_trans HM.out.2.1.size HD.out.2.2.1, Nat.le_trans HM.out.2.1.size HD.out.2.2.2⟩
    obtain ⟨base, hbase⟩ : ∃ b, w3.heap.size = b := ⟨_, rfl⟩
    rw [hbase] at HT
    clear hco hb4 hC2 hT hp4 hbase HM HD HE
    go_wp2_with fail
    go_loopw [17, 18, 19] (fun hs ps i wr => ∃ (n : Nat) (H : List UInt8) (hv pv : Value) (st : Nat) (r : R4) (x : PS) (X : List Nat) (ss : List Sy) (M : Nat → MSt) (p : Nat → List Nat), hv = hs ∧ pv = ps ∧ i = .int .i64 (n : Nat) ∧ n ≤ l.length ∧ Hid (H.length ≤ 500 + 300 * n ∧ ss.length ≤ n) ∧ Hid (st < 12 ∧ rGood r ∧ (encIo g).ok x.2 (100 * (60 - n) + 100)) ∧ Hid (Lp w wr (encIo g) C L lc lp pb st r x X C2 base st r hv H pv ss (fun w => ModAt w D Mb lc lp pb 0 (1, 1, 1, 1) (fun _ => 1024)) (fun a => a ≠ 2) p) ∧ Hid (p 4 = [D, Mb]) ∧ Hid (Chain g lc lp pb ss M ∧ M 0 = ⟨H0, 0, (1, 1, 1, 1), (fun _ => 1024, st0)⟩ ∧ M ss.length = ⟨H, st, r, x⟩)) (fun _ _ i _ => 60 - (intOf i).toNat)
    case atStart => exact ⟨0, H0, _, _, 0, (1, 1, 1, 1), (fun _ => 1024, st0), _, [], fun _ => ⟨H0, 0, (1, 1, 1, 1), (fun _ => 1024, st0)⟩, p, rfl, rfl, rfl, Nat.zero_le _, Lib.hid ⟨by have := HH500.out; omega, Nat.le_refl _⟩, Lib.hid ⟨by decide, rGood1, st0_oks g _ (by decide)⟩, HT, HP4, Lib.hid ⟨fun t ht => by simp at ht, rfl, rfl⟩⟩
    case round =>
      obtain ⟨n, H, hv, pv, st, r, x, X, ss, M, p, rfl, rfl, rfl, hn, HHL, HST, HT, HP4, HCH⟩ := hrel
      by_cases hnl : n < l.length
      · have hni : (n : Int) < (l.length : Int) := by omega
        obtain ⟨b, off, hA1, hcells⟩ := HSYM.out n hnl
        subst hA1
        obtain ⟨⟨sk, sb, sl, sd, sq⟩, hs⟩ : ∃ s, l[n] = s := ⟨_, rfl⟩
        rw [hs] at hcells
        simp only at hcells
        have HSYB := Lib.hid hcells
        have HN60 : Hid (n < 60) := Lib.hid (by have := HL60.out; omega)
        obtain ⟨AH, cH, eH, hcH, hmH, hBH, hAH⟩ := HT.out.hist
        subst eH
        have hHl : H.length ≤ 1000000 := by have := HHL.out; have := HL60.out; omega
        have hHli : (H.length : Int) ≤ 1000000 := by omega
        have hcHi : (H.length : Int) ≤ (cH : Int) := by omega
        have HCH2 := Lib.hid hcH
        have HHL2 := Lib.hid hHl
        obtain ⟨Pl, vR5, vP5, hco5, _⟩ := HT.out.cod
        have HFI := Lib.hid (fits_any C2 base lc lp pb st r Pl vR5 vP5 AH H.length cH sk sb sl sd sq wr hco5)
        clear hcells hs hBH hAH hcH hco5
        obtain ⟨q0, q1, q2, q3, q4⟩ := HSYB.out _ HT.out.below
        cases hf : fitsZ r (H.length : Int) sk sl sd sq with
        | false =>
          rw [hf] at HFI
          clear hf
          go_wp2_with fail
          refine HFI.out.mono ?_
          rintro e w5 ⟨rfl, hb5⟩
          have HT5 := Lib.hid (HT.out.next hb5)
          clear q0 q1 q2 q3 q4
          clear hb5
          go_wp2_with fail
          exact ⟨⟨n + 1, H, _, _, st, r, x, X, ss, M, p, rfl, rfl, by go_num, by omega, Lib.hid (by have := HHL.out; omega), Lib.hid ⟨HST.out.1, HST.out.2.1, (encIo g).le HST.out.2.2 (by omega)⟩, HT5, HP4, HCH⟩, by simp [intOf]; have := HN60.out; omega⟩
        | true =>
          rw [hf] at HFI
          obtain ⟨s', st2, r2, z, hsym, hr2, hst2, hval, hlink⟩ := fits_link (g := g) (lc := lc) (lp := lp) (pb := pb) (a := ⟨H, st, r, x⟩) (b := sb) HST.out.2.1 hf
          simp only at hsym hr2 hst2
          obtain ⟨bk, hbk, hbk2, hq03, hl273⟩ := dist_back HST.out.2.1 hf
          have HF := Lib.hid hf
          have HSYMZ := Lib.hid hsym
          have HLK := Lib.hid (hlink bk hbk)
          have HVAL := Lib.hid hval
          have HBK := Lib.hid (And.intro hbk (And.intro hbk2 (And.intro hq03 hl273)))
          have HST2 := Lib.hid (And.intro hst2 hr2)
          clear hf hsym hlink hval hbk hbk2 hq03 hl273 hst2 hr2
          go_wp2_with fail
          refine HFI.out.mono ?_
          rintro e w5 ⟨rfl, hb5⟩
          have HT5 := Lib.hid (HT.out.next hb5)
          obtain ⟨hB5, hA5⟩ := HT5.out.hist.bytes
          have HP := Lib.hid (put_yes HT5.out.ms HPAR.out.1 HPAR.out.2.1 HPAR.out.2.2.1 HST.out.1 HST.out.2.1 (k := 100 * (60 - (n + 1)) + 100) AH H cH hB5 HCH2.out (by omega) (fun a e => fun hm => HT5.out.sep.dis 0 2 (by decide) (by decide) _ (by rw [HT5.out.p0]; exact hm) (hA5 a e)) sk sb sl sd sq HF.out HSYMZ.out ((encIo g).le HST.out.2.2 (by have := HN60.out; omega)))
          clear q0 q1 q2 q3 q4
          clear hb5 hB5 hA5
          obtain ⟨q0, q1, q2, q3, q4⟩ := HSYB.out _ HT5.out.below
          go_wp2_with fail
          refine HP.out.mono ?_
          rintro e w6 ⟨⟨rfl, hw6⟩, _, _, _, _, hst12, hrg, hok6⟩
          obtain ⟨X6, p6, hT6, hp6⟩ := HT5.out.code hw6
          have HT6 := Lib.hid hT6
          have HP6 := Lib.hid (hp6.trans HP4.out)
          have HST6 := Lib.hid (And.intro hst12 (And.intro hrg hok6))
          obtain ⟨Pl6, vR6, vP6, hco6, _⟩ := HT6.out.cod
          have HDI := Lib.hid (dist_any C2 base lc lp pb st r Pl6 vR6 vP6 sk sb sl sd sq w6 hco6 HBK.out.2.2.1)
          rw [HBK.out.1] at HDI
          clear q0 q1 q2 q3 q4
          clear hw6 hst12 hrg hok6 hT6 hp6 hco6
          obtain ⟨q0, q1, q2, q3, q4⟩ := HSYB.out _ HT6.out.below
          go_wp2_with fail
          refine HDI.out.mono ?_
          rintro e w7 ⟨rfl, hb7⟩
          have HT7 := Lib.hid (HT6.out.next hb7)
          obtain ⟨Pl7, vR7, vP7, hco7, hfin⟩ := HT7.out.bec
          have hbe := becomes_ints hco7 HT7.out.base HST.out.1 HF.out (b := sb)
          rw [← HST2.out.1, ← HST2.out.2] at hbe
          have HBE := Lib.hid hbe
          have HFIN := Lib.hid hfin
          clear q0 q1 q2 q3 q4
          clear hb7 hco7 hfin hbe
          obtain ⟨q0, q1, q2, q3, q4⟩ := HSYB.out _ HT7.out.below
          go_wp2_with fail
          refine HBE.out.mono ?_
          intro e w8 h8
          obtain ⟨rfl, p8, hT8, hp8⟩ := HFIN.out _ _ _ _ h8
          have HT8 := Lib.hid hT8
          have HP8 := Lib.hid (hp8.trans HP6.out)
          obtain ⟨hB8, _⟩ := HT8.out.hist.bytes
          obtain ⟨hH9, hgr⟩ := sy_grow (b := sb) (l := sl) (d := sd) (q := sq) hB8 HCH2.out HHL2.out HBK.out.2.1 HBK.out.2.2.2
          have HGR := Lib.hid hgr
          have HH9 := Lib.hid hH9
          clear q0 q1 q2 q3 q4
          clear hT8 hp8 h8 hB8 hH9 hgr
          obtain ⟨q0, q1, q2, q3, q4⟩ := HSYB.out _ HT8.out.below
          go_wp2_with fail
          refine HGR.out.mono ?_
          rintro e w9 ⟨v9, rfl, ho9, hb9⟩
          obtain ⟨p9, hT9, hp9⟩ := HT8.out.grow hb9 ho9
          have HT9 := Lib.hid hT9
          have HP9 := Lib.hid (hp9.trans HP8.out)
          have HPL := Lib.hid (coplain_any sk sb sl sd sq w9)
          rw [← HVAL.out] at HPL
          clear q0 q1 q2 q3 q4
          clear ho9 hb9 hT9 hp9 HFI HP HDI HBE HFIN HGR HT5 HT6 HT7 HT8
          obtain ⟨q0, q1, q2, q3, q4⟩ := HSYB.out _ HT9.out.below
          go_wp2_with fail
          refine HPL.out.mono ?_
          rintro e w10 ⟨rfl, hb10⟩
          have HT10 := Lib.hid (HT9.out.next hb10)
          obtain ⟨W11, hW11⟩ : ∃ W, w10.alloc (.cells #[.int .i64 (s'.k : Nat), .int .u8 (s'.b.toNat : Nat), .int .i64 (s'.l : Nat), .int .i64 (s'.d : Nat), .int .i64 (s'.r : Nat)] 38) = W := ⟨_, rfl⟩
          have hrow11 : W11.heap[w10.heap.size]? = some (.cells (syCells [s']).toArray 38 (0, 0)) := by rw [← hW11]; exact sy_cells_alloc w10 s'
          have hb11 : Below w10.heap.size w10 W11 := by rw [← hW11]; exact (Below.refl _ _).alloc (Nat.le_refl _) _
          have HT11 := Lib.hid (HT10.out.next hb11)
          have HW11 := Lib.hid hW11
          have HROW := Lib.hid hrow11
          have HSS : Hid (ss.length ≤ 1000000) := Lib.hid (by have := HHL.out; have := HN60.out; omega)
          clear q0 q1 q2 q3 q4
          clear hb10 hW11 hrow11 hb11
          go_wp2_with (at_builtin; rw [HW11.out]; refine wpList_append_sy2 rfl (.tmp 116) (.tmp 122) rfl w.heap.size W11 pv ss rfl HT11.out.puts.1 w10.heap.size 1 s' rfl HROW.out HSS.out HT11.out.below.size ?_; intro v12 w12 ho12 hg12 hl12; obtain ⟨p12, hT12, hp12⟩ := HT11.out.append ho12 hg12 hl12; have HT12 := Lib.hid hT12; have HP12 := Lib.hid (hp12.trans HP9.out); clear ho12 hg12 hl12 hT12 hp12)
          have hch := HCH.out.1.snoc (by rw [HCH.out.2.2]; exact HLK.out HST6.out.2.2.1)
          exact ⟨⟨n + 1, _, _, _, st2, r2, z, X6, ss ++ [s'], _, p12, rfl, rfl, by go_num, by omega, Lib.hid ⟨by have := HHL.out; have := HH9.out; omega, by have := HHL.out; simp; omega⟩, HST6, HT12, HP12, Lib.hid ⟨hch.1, by rw [if_pos (Nat.zero_le _)]; exact HCH.out.2.1, hch.2⟩⟩, by simp [intOf]; have := HN60.out; omega⟩
      · have hnlb : decide ((n : Int) < (l.length : Int)) = false := decide_eq_false (by omega)
        obtain ⟨hv9, hKE, hKE2⟩ := enc_ok_small ((encIo g).le HST.out.2.2 (show 100 ≤ _ by omega))
        obtain ⟨oE2, capE2, _, hE⟩ := HT.out.ms.io
        have HOKX : Hid (x.2.ok) := Lib.hid HST.out.2.2.1
        have HBY := Lib.hid (bytes_any g oE2 capE2 x.2 wr hE hKE)
        obtain ⟨LB, hLB⟩ : ∃ LB, Rc.be (5 + x.2.k) x.2.v = LB := ⟨_, rfl⟩
        have hlenB : LB.length = 5 + x.2.k := by rw [← hLB]; exact Rc.be_length _ _
        have hz0 : LB.getD 0 0 = 0 := by rw [← hLB]; exact agree_zero (be_agree x.2) HOKX.out (by rw [Rc.be_length]; omega)
        have h5B : 5 ≤ LB.length := by omega
        have hmB : LB.length ≤ 140737488355328 := by omega
        rw [hLB] at HBY
        have HLB := Lib.hid (And.intro hLB (And.intro hz0 (And.intro h5B hmB)))
        have hlBi : (LB.length : Int) ≤ 140737488355328 := by omega
        clear hv9 hKE hKE2 hE hLB hlenB hz0 h5B hmB
        go_wp2_with fail
        refine HBY.out.mono ?_
        rintro e w5 ⟨v5, rfl, hO5, hb5⟩
        obtain ⟨A5, c5, rfl, hc5, hm5, hB5⟩ := hO5.read
        have HDN := Lib.hid (dnew_good A5 LB c5 w5 hB5 HLB.out.2.2.1 HLB.out.2.2.2 HLB.out.2.1)
        have HB5 := Lib.hid hb5
        clear hO5 hb5 hc5 hm5 hB5
        go_wp2_with fail
        refine HDN.out.mono ?_
        rintro e w6 ⟨g2, o2, cap2, rfl, hE2, hb6, hg2, ho2⟩
        have HE2 := Lib.hid (And.intro hE2 (And.intro hb6 (And.intro hg2 ho2)))
        clear hE2 hb6 hg2 ho2
        go_wp2_with fail
        refine (HNC.out w6).mono ?_
        rintro e w7 ⟨C3, vR3, vP3, rfl, hco7, hb7, hC3⟩
        obtain ⟨p2, hT2⟩ := lp_start2 HT.out HP4.out HDL.out.1 HDL.out.2 HB5.out HE2.out.1 HE2.out.2.1 HE2.out.2.2.1 HE2.out.2.2.2 hco7 hb7 hC3 HB.out.1 HB.out.2 HC.out HCM.out
        have HT2 := Lib.hid hT2
        have HCHN := HCH
        obtain ⟨base3, hbase3⟩ : ∃ b, w6.heap.size = b := ⟨_, rfl⟩
        rw [hbase3] at HT2
        have eM0 := HCH.out.2.1
        have HSM := Lib.hid (sim_start (S := x.2) (L := LB) HOKX.out HLB.out.1.symm)
        have hMst : (M 0).st = 0 ∧ (M 0).r = (1, 1, 1, 1) ∧ (M 0).H = H0 ∧ (M 0).x = (fun _ => 1024, st0) := by rw [eM0]; exact ⟨rfl, rfl, rfl, rfl⟩
        obtain ⟨m1, m2, m3, m4⟩ := hMst
        have HT2M : Hid (Lp w w7 (decIo g2 o2 cap2 LB) D Mb lc lp pb (M 0).st (M 0).r (fun _ => 1024, Rd.start LB) [g2, o2] C3 base3 (M 0).st (M 0).r (.slice A H0.length c) (M 0).H pv ss (fun w => HistIn w hv H (p 2)) (fun a => a = 0 ∨ a = 1 ∨ a = 3) p2) := Lib.hid (by rw [m1, m2, m3]; exact HT2.out)
        have HSM0 : Hid ((M 0).st < 12 ∧ rGood (M 0).r ∧ (decIo g2 o2 cap2 LB).ok (Rd.start LB) 0 ∧ Sim x.2 LB (M 0).x (fun _ => 1024, Rd.start LB) ∧ (M 0).H.length ≤ 500 + 300 * 0) := Lib.hid (by rw [m1, m2, m3, m4]; exact ⟨by decide, rGood1, ⟨Rd.start_ok HLB.out.2.2.1, HLB.out.2.2.2⟩, HSM.out, by have := HH500.out; omega⟩)
        have HSS : Hid (ss.length ≤ 60) := Lib.hid (by have := HHL.out; have := HL60.out; omega)
        obtain ⟨AP, cP, rfl, hcP, hmP, _⟩ := HT.out.puts.1.form
        have hcPi : (ss.length : Int) ≤ (cP : Int) := by omega
        have hss60 : (ss.length : Int) ≤ 60 := by have := HSS.out; omega
        clear hco7 hb7 hC3 hT2 hbase3 eM0 m1 m2 m3 m4 hcP hmP HT2 HSM HNC HNG HE2 HB5 HDN HBY
        go_wp2_with fail
        go_loopw [24, 25] (fun ks i wr2 => ∃ (n : Nat) (kv : Value) (y : PD) (X2 : List Nat) (p3 : Nat → List Nat), kv = ks ∧ i = .int .i64 (n : Nat) ∧ n ≤ ss.length ∧ Hid (Lp w wr2 (decIo g2 o2 cap2 LB) D Mb lc lp pb (M n).st (M n).r y X2 C3 base3 (M n).st (M n).r kv (M n).H (.slice AP ss.length cP) ss (fun w => HistIn w hv H (p 2)) (fun a => a = 0 ∨ a = 1 ∨ a = 3) p3) ∧ Hid ((M n).st < 12 ∧ rGood (M n).r ∧ (decIo g2 o2 cap2 LB).ok y.2 0 ∧ Sim x.2 LB (M n).x y ∧ (M n).H.length ≤ 500 + 300 * n)) (fun _ i _ => ss.length - (intOf i).toNat)
        case atStart => exact ⟨0, _, _, _, p2, rfl, rfl, Nat.zero_le _, HT2M, HSM0⟩
        case round =>
          obtain ⟨n, kv, y, X2, p3, rfl, rfl, hn2, HT, HST⟩ := hrel
          by_cases hnl2 : n < ss.length
          · have hn2i : (n : Int) < (ss.length : Int) := by omega
            have hMx : (M ss.length).x = x := by rw [HCHN.out.2.2]
            have hb := Chain.back HCHN.out.1 (by rw [HCHN.out.2.1]; exact fun _ => ⟨show 1 ≤ 1024 by decide, show 1024 ≤ 2047 by decide⟩) (by rw [hMx]; exact HOKX.out) (L := LB) (by rw [hMx]; exact HLB.out.1.symm) g2 o2 cap2 hnl2 (y := y) (by rw [hMx]; exact HST.out.2.2.2.1)
            rw [hMx] at hb
            obtain ⟨z', hsyd, hsim⟩ := hb
            have hlk := HCHN.out.1 n hnl2
            obtain ⟨s, hs⟩ : ∃ s, ss[n] = s := ⟨_, rfl⟩
            obtain ⟨g, hAP, hputs⟩ : ∃ g, AP = some ⟨g, 0, none⟩ ∧ True := by
              obtain ⟨A', c', e, _, _, hf⟩ := HT.out.puts.1.form
              injection e with e1 _ _
              obtain ⟨g, hg, _⟩ := hf n hnl2
              exact ⟨g, e1.trans hg, trivial⟩
            subst hAP
            have HPUTS : Hid (∀ W, OwnS w.heap.size W (.slice (some ⟨g, 0, none⟩) ss.length cP) ss → W.cell? ⟨g, n * 5, none⟩ = some (.int .i64 (s.k : Nat)) ∧ W.cell? ⟨g, n * 5 + 1, none⟩ = some (.int .u8 (s.b.toNat : Nat)) ∧ W.cell? ⟨g, n * 5 + 2, none⟩ = some (.int .i64 (s.l : Nat)) ∧ W.cell? ⟨g, n * 5 + 3, none⟩ = some (.int .i64 (s.d : Nat)) ∧ W.cell? ⟨g, n * 5 + 4, none⟩ = some (.int .i64 (s.r : Nat))) := Lib.hid (fun W hW => by
              obtain ⟨A', c', e, _, _, hf⟩ := hW.form
              injection e with e1 _ _
              obtain ⟨g', hg, _, f0, f1, f2, f3, f4⟩ := hf n hnl2
              rw [← e1] at hg
              injection hg with hg
              injection hg with hg
              subst hg
              rw [hs] at f0 f1 f2 f3 f4
              rw [Nat.mul_comm n 5]
              exact ⟨f0, f1, f2, f3, f4⟩)
            rw [hs] at hsyd hlk
            obtain ⟨bk, hbk, hbk1, hH'⟩ := hlk.hist
            have HLK := Lib.hid hlk
            have HBK := Lib.hid (And.intro hbk (And.intro hbk1 hH'))
            have HSIM := Lib.hid hsim
            obtain ⟨AH, cH, eH, hcH, hmH, hBH, hAH⟩ := HT.out.hist
            subst eH
            have hHl : (M n).H.length ≤ 1000000 := by have := HST.out.2.2.2.2; have := HSS.out; omega
            obtain ⟨Hn, hHn⟩ : ∃ Hn, (M n).H = Hn := ⟨_, rfl⟩
            have HHN := Lib.hid hHn
            have hk := sym_is (decIo g2 o2 cap2 LB) HT.out.ms HPAR.out.1 HPAR.out.2.1 HPAR.out.2.2.1 HST.out.1 HST.out.2.1 (k := 0) AH (M n).H cH hBH hcH (by omega) (fun a e => fun hm => HT.out.sep.dis 0 2 (by decide) (by decide) _ (by rw [HT.out.p0]; exact hm) (hAH a e)) 0 0 0 0 0 (fun _ => ⟨by decide, by decide⟩) (fun _ _ => ⟨by decide, by decide⟩) hsyd HST.out.2.2.1
            rw [hHn] at hk hHl hcH
            have hHli : (Hn.length : Int) ≤ 1000000 := by omega
            have hcHi : (Hn.length : Int) ≤ (cH : Int) := by omega
            have HCH3 := Lib.hid hcH
            have HHL3 := Lib.hid hHl
            have HKD : Hid (Calls Try.prog 24 #[PF D, .iface 55 (.pointer (some ⟨g2, 0, none⟩)), .slice AH Hn.length cH, .agg #[.int .i64 0, .int .u8 0, .int .i64 0, .int .i64 0, .int .i64 0]] wr _) := Lib.hid hk
            clear hsyd hsim hlk hs hputs hbk hbk1 hH' hk hBH hAH hcH hMx
            rw [hHn] at HT ⊢
            clear hHn
            go_wp2_with fail
            refine HKD.out.mono ?_
            rintro e w5 ⟨⟨rfl, hw5⟩, _, _, _, _, hst12, hrg, hok5⟩
            obtain ⟨X5, p5, hT5, _⟩ := HT.out.code hw5
            obtain ⟨W6, hW6⟩ : ∃ W, w5.alloc (.cells #[.int .i64 (s.k : Nat), .int .u8 (s.b.toNat : Nat), .int .i64 (s.l : Nat), .int .i64 (s.d : Nat), .int .i64 (s.r : Nat)] 38) = W := ⟨_, rfl⟩
            obtain ⟨y0, y1, y2, y3, y4, hb6⟩ := sy_box hW6
            have hlt6 : w5.heap.size < W6.heap.size := block_lt_of_cell y0
            have HBOX : Hid (∀ W, Below W6.heap.size W6 W → W.cell? ⟨w5.heap.size, 0, none⟩ = some (.int .i64 (s.k : Nat)) ∧ W.cell? ⟨w5.heap.size, 1, none⟩ = some (.int .u8 (s.b.toNat : Nat)) ∧ W.cell? ⟨w5.heap.size, 2, none⟩ = some (.int .i64 (s.l : Nat)) ∧ W.cell? ⟨w5.heap.size, 3, none⟩ = some (.int .i64 (s.d : Nat)) ∧ W.cell? ⟨w5.heap.size, 4, none⟩ = some (.int .i64 (s.r : Nat))) := Lib.hid (fun W hW => ⟨(hW.cell (p := ⟨w5.heap.size, 0, none⟩) hlt6).trans y0, (hW.cell (p := ⟨w5.heap.size, 1, none⟩) hlt6).trans y1, (hW.cell (p := ⟨w5.heap.size, 2, none⟩) hlt6).trans y2, (hW.cell (p := ⟨w5.heap.size, 3, none⟩) hlt6).trans y3, (hW.cell (p := ⟨w5.heap.size, 4, none⟩) hlt6).trans y4⟩)
            have HT6 := Lib.hid (hT5.next hb6)
            have HC3 : Hid (C3 < w5.heap.size) := Lib.hid (by obtain ⟨_, _, _, hco5, _⟩ := hT5.cod; exact hco5.lt)
            have HLT6 := Lib.hid hlt6
            have HPUT := Lib.hid (fun W (hW : Below W6.heap.size W6 W) => HPUTS.out W (HT6.out.next hW).puts.1)
            have HST6 := Lib.hid (And.intro hst12 (And.intro hrg hok5))
            have HW6 := Lib.hid hW6
            have hdr : Below W6.heap.size W6 W6.drew := (Below.refl _ _).drew
            clear hw5 hst12 hrg hok5 hT5 hW6 y0 y1 y2 y3 y4 hb6 HKD HT
            go_upto_region 30 with fail
            rw [HW6.out]
            refine wp_region_held_drew (S := fun w2 => Below W6.heap.size W6 w2) (by kernel_rfl) hdr (fun hS => ?_)
            refine wpAnyH_take (i := 0) (oi := { dst := some 153, op := Op.load 38 (Operand.tmp 26), type := 38, pos := "law.go:104", after := #[], guard := none }) (v := ?vmu1) rfl (by kernel_rfl) (by kernel_rfl) (by kernel_rfl) (fun _ _ _ h => h) (Or.inl ⟨by rfl, ?ymu1⟩) hS ?_
            case ymu1 =>
              intro w hSw
              obtain ⟨b0, b1, b2, b3, b4⟩ := HBOX.out w hSw
              go_simp; all_goals (with_reducible rfl)
            simp only [Act.put, List.setIfInBounds_toArray, List.set_cons_zero, List.set_cons_succ]
            refine wpAnyH_take (i := 1) (oi := { dst := some 154, op := Op.move (Operand.tmp 18), type := 23, pos := "law.go:104", after := #[], guard := none }) (v := ?vmu2) rfl (by kernel_rfl) (by kernel_rfl) (by kernel_rfl) (fun _ _ _ h => h) (Or.inl ⟨by rfl, ?ymu2⟩) hS ?_
            case ymu2 =>
              intro w hSw
              go_simp; all_goals (with_reducible rfl)
            simp only [Act.put, List.setIfInBounds_toArray, List.set_cons_zero, List.set_cons_succ]
            refine wpAnyH_take (i := 2) (oi := { dst := some 155, op := Op.move (Operand.tmp 25), type := 3, pos := "law.go:104", after := #[], guard := none }) (v := ?vmu3) rfl (by kernel_rfl) (by kernel_rfl) (by kernel_rfl) (fun _ _ _ h => h) (Or.inl ⟨by rfl, ?ymu3⟩) hS ?_
            case ymu3 =>
              intro w hSw
              go_simp; all_goals (with_reducible rfl)
            simp only [Act.put, List.setIfInBounds_toArray, List.set_cons_zero, List.set_cons_succ]
            refine wpAnyH_take (i := 3) (oi := { dst := some 156, op := Op.indexAddr 23 (Operand.tmp 154) (Operand.tmp 155), type := 0, pos := "law.go:104", after := #[{ on := 1, ground := Ground.data }, { on := 2, ground := Ground.data }], guard := none }) (v := ?vmu4) rfl (by kernel_rfl) (by kernel_rfl) (by kernel_rfl) (fun _ _ _ h => h) (Or.inl ⟨by rfl, ?ymu4⟩) hS ?_
            case ymu4 =>
              intro w hSw
              obtain ⟨u0, u1, u2, u3, u4⟩ := HPUT.out w hSw
              go_simp; all_goals (with_reducible rfl)
            simp only [Act.put, List.setIfInBounds_toArray, List.set_cons_zero, List.set_cons_succ]
            refine wpAnyH_take (i := 4) (oi := { dst := some 157, op := Op.load 38 (Operand.tmp 156), type := 38, pos := "law.go:104", after := #[{ on := 3, ground := Ground.data }], guard := none }) (v := ?vmu5) rfl (by kernel_rfl) (by kernel_rfl) (by kernel_rfl) (fun _ _ _ h => h) (Or.inl ⟨by rfl, ?ymu5⟩) hS ?_
            case ymu5 =>
              intro w hSw
              obtain ⟨u0, u1, u2, u3, u4⟩ := HPUT.out w hSw
              go_simp; all_goals (with_reducible rfl)
            simp only [Act.put, List.setIfInBounds_toArray, List.set_cons_zero, List.set_cons_succ]
            refine wpAnyH_ready (rs := [5]) (by kernel_rfl) (by simp) ?_
            refine (AllReadyH.cons (o := { dst := some 158, op := Op.binOp BinOp.neq 38 (Operand.tmp 153) (Operand.tmp 157) 38, type := 4, pos := "law.go:104", after := #[{ on := 0, ground := Ground.data }, { on := 4, ground := Ground.data }], guard := none }) rfl (fun K hK => ?_) AllReadyH.nil)
            go_simp
            refine hK.out _ _ hS (fun _ => ?_)
            clear hK K
            refine wpAnyH_done (by kernel_rfl) ?_ _

            have hb7 : Below W6.heap.size W6 W6.drew := (Below.refl _ _).drew
            obtain ⟨W7, hW7⟩ : ∃ W, W6.drew = W := ⟨_, rfl⟩
            rw [hW7] at hb7 ⊢
            have HB7 := Lib.hid hb7
            have HT7 := Lib.hid (HT6.out.next hb7)
            clear hS hdr hW7 hb7
            obtain ⟨Pl7, vR7, vP7, hco7, _⟩ := HT7.out.cod
            have HDI := Lib.hid (dist_any C3 base3 lc lp pb (M n).st (M n).r Pl7 vR7 vP7 (s.k : Nat) s.b (s.l : Nat) (s.d : Nat) (s.r : Nat) W7 hco7 (fun _ => by have := HLK.out.q; omega))
            rw [HBK.out.1] at HDI
            obtain ⟨b0, b1, b2, b3, b4⟩ := HBOX.out W7 HB7.out
            clear hco7
            go_wp2_with fail
            refine HDI.out.mono ?_
            rintro e w8 ⟨rfl, hb8⟩
            have HT8 := Lib.hid (HT7.out.next hb8)
            have HB8 := Lib.hid (HB7.out.trans (hb8.mono HB7.out.size))
            obtain ⟨Pl8, vR8, vP8, hco8, hfin⟩ := HT8.out.bec
            have hbe := becomes_sy2 hco8 HT8.out.base HST.out.1 HLK.out.k HLK.out.q
            rw [← HLK.out.st, ← HLK.out.r] at hbe
            have HBE := Lib.hid hbe
            have HFIN := Lib.hid hfin
            clear b0 b1 b2 b3 b4 hb8 hco8 hfin hbe
            obtain ⟨b0, b1, b2, b3, b4⟩ := HBOX.out w8 HB8.out
            go_wp2_with fail
            refine HBE.out.mono ?_
            intro e w9 h9
            obtain ⟨_, _, _, hg9, _⟩ := id h9
            have e9 : w9.heap[w5.heap.size]? = w8.heap[w5.heap.size]? := hg9.block _ (Nat.lt_of_lt_of_le HLT6.out HB8.out.size) (fun e => by injection e with e; have := HC3.out; omega)
            have hc9 : ∀ k, w9.cell? ⟨w5.heap.size, k, none⟩ = w8.cell? ⟨w5.heap.size, k, none⟩ := fun k => by
              unfold World.cell?
              rw [e9]
            have c0 := (hc9 0).trans b0
            have c1' := (hc9 1).trans b1
            have c2 := (hc9 2).trans b2
            have c3 := (hc9 3).trans b3
            have c4 := (hc9 4).trans b4
            obtain ⟨rfl, p9, hT9, _⟩ := HFIN.out _ _ _ _ h9
            have HT9' := Lib.hid hT9
            obtain ⟨hB9, _⟩ := HT9'.out.hist.bytes
            have hgr := grow_any AH Hn cH (s.k : Nat) s.b s.l (s.d : Nat) (s.r : Nat) bk w9 hB9 HCH3.out HHL3.out (by have := HLK.out.short; omega) (by have h := HBK.out.2.1; rw [HHN.out] at h; exact h)
            have hH' := HBK.out.2.2
            rw [HHN.out] at hH'
            rw [← hH'] at hgr
            have HGR := Lib.hid hgr
            have HLEN : Hid ((M (n + 1)).H.length ≤ 500 + 300 * (n + 1)) := Lib.hid (by
              rw [hH']
              have h1 := grow_length (H := Hn) (k := (s.k : Nat)) (b := s.b) (l := s.l) (back := bk) (fun _ => HLK.out.short)
              have h2 := HST.out.2.2.2.2
              rw [HHN.out] at h2
              omega)
            clear b0 b1 b2 b3 b4 hT9 h9 hB9 hgr hH' hg9 e9 hc9
            go_wp2_with fail
            refine HGR.out.mono ?_
            rintro e w10 ⟨v10, rfl, ho10, hb10⟩
            obtain ⟨p10, hT10, _⟩ := HT9'.out.grow hb10 ho10
            have HT9 := Lib.hid hT10
            clear ho10 hb10 hT10 c0 c1' c2 c3 c4 HDI HBE HFIN HGR HT6 HT7 HT8 HT9'
            obtain ⟨Pl9, vR9, vP9, hco9, _⟩ := HT9.out.cod
            obtain ⟨gR, capR, eR, _, _, hcapR, _, hatR⟩ := hco9.reps.some_of_pos (show 0 < 4 by decide)
            subst eR
            have hrow9 := hco9.box
            have hClt : C3 < w10.heap.size := (Array.getElem?_eq_some_iff.1 hrow9).1
            have hgRlt : gR < w10.heap.size := block_lt_of_cell (hatR 0 (show 0 < 4 by decide))
            have HCL : Hid (∀ W, Below w10.heap.size w10 W → W.cell? ⟨C3, 3, none⟩ = some (.int .i64 ((M (n + 1)).st : Nat)) ∧ W.cell? ⟨C3, 4, none⟩ = some (.slice (some ⟨gR, 0, none⟩) 4 capR)) := Lib.hid (fun W hW => by
              have e := (hW.block C3 hClt).trans hrow9
              exact ⟨by rw [cell_of_row W _ _ _ _ _ e]; rfl, by rw [cell_of_row W _ _ _ _ _ e]; rfl⟩)
            have HRC : Hid (∀ W, Below w10.heap.size w10 W → W.cell? ⟨gR, 0, none⟩ = some (.int .i64 (M (n + 1)).r.1) ∧ W.cell? ⟨gR, 1, none⟩ = some (.int .i64 (M (n + 1)).r.2.1) ∧ W.cell? ⟨gR, 2, none⟩ = some (.int .i64 (M (n + 1)).r.2.2.1) ∧ W.cell? ⟨gR, 3, none⟩ = some (.int .i64 (M (n + 1)).r.2.2.2)) := Lib.hid (fun W hW =>
              ⟨(hW.cell (p := ⟨gR, 0, none⟩) hgRlt).trans (hatR 0 (show 0 < 4 by decide)), (hW.cell (p := ⟨gR, 1, none⟩) hgRlt).trans (hatR 1 (show 1 < 4 by decide)), (hW.cell (p := ⟨gR, 2, none⟩) hgRlt).trans (hatR 2 (show 2 < 4 by decide)), (hW.cell (p := ⟨gR, 3, none⟩) hgRlt).trans (hatR 3 (show 3 < 4 by decide))⟩)
            have HCAP : Hid (4 ≤ capR) := Lib.hid hcapR
            have hdr : Below w10.heap.size w10 w10.drew := (Below.refl _ _).drew
            clear hco9 hatR hrow9 hClt hgRlt hcapR
            go_upto_region 35 with fail
            refine wp_region_held_drew (S := fun w2 => Below w10.heap.size w10 w2) (by kernel_rfl) hdr (fun hS => ?_)
            refine wpAnyH_take (i := 0) (oi := { dst := some 169, op := Op.move (Operand.tmp 13), type := 25, pos := "law.go:110", after := #[], guard := none }) (v := ?vmv6) rfl (by kernel_rfl) (by kernel_rfl) (by kernel_rfl) (fun _ _ _ h => h) (Or.inl ⟨by rfl, ?ymv6⟩) hS ?_
            case ymv6 =>
              intro w hSw
              go_simp; all_goals (with_reducible rfl)
            simp only [Act.put, List.setIfInBounds_toArray, List.set_cons_zero, List.set_cons_succ]
            refine wpAnyH_take (i := 2) (oi := { dst := some 171, op := Op.move (Operand.tmp 23), type := 32, pos := "law.go:110", after := #[], guard := none }) (v := ?vmv7) rfl (by kernel_rfl) (by kernel_rfl) (by kernel_rfl) (fun _ _ _ h => h) (Or.inl ⟨by rfl, ?ymv7⟩) hS ?_
            case ymv7 =>
              intro w hSw
              go_simp; all_goals (with_reducible rfl)
            simp only [Act.put, List.setIfInBounds_toArray, List.set_cons_zero, List.set_cons_succ]
            refine wpAnyH_take (i := 3) (oi := { dst := some 172, op := Op.nilCheck (Operand.tmp 171), type := 0, pos := "law.go:110", after := #[{ on := 2, ground := Ground.data }], guard := none }) (v := ?vmv8) rfl (by kernel_rfl) (by kernel_rfl) (by kernel_rfl) (fun _ _ _ h => h) (Or.inl ⟨by rfl, ?ymv8⟩) hS ?_
            case ymv8 =>
              intro w hSw
              go_simp; all_goals (with_reducible rfl)
            simp only [Act.put, List.setIfInBounds_toArray, List.set_cons_zero, List.set_cons_succ]
            refine wpAnyH_take (i := 4) (oi := { dst := some 173, op := Op.fieldAddr 47 (Operand.tmp 172) 3, type := 0, pos := "law.go:110", after := #[{ on := 3, ground := Ground.data }], guard := none }) (v := ?vmv9) rfl (by kernel_rfl) (by kernel_rfl) (by kernel_rfl) (fun _ _ _ h => h) (Or.inl ⟨by rfl, ?ymv9⟩) hS ?_
            case ymv9 =>
              intro w hSw
              go_simp; all_goals (with_reducible rfl)
            simp only [Act.put, List.setIfInBounds_toArray, List.set_cons_zero, List.set_cons_succ]
            refine wpAnyH_take (i := 5) (oi := { dst := some 174, op := Op.load 3 (Operand.tmp 173), type := 3, pos := "law.go:110", after := #[{ on := 4, ground := Ground.data }], guard := none }) (v := ?vmv10) rfl (by kernel_rfl) (by kernel_rfl) (by kernel_rfl) (fun _ _ _ h => h) (Or.inl ⟨by rfl, ?ymv10⟩) hS ?_
            case ymv10 =>
              intro w hSw
              obtain ⟨p3, p4⟩ := HCL.out w hSw
              go_simp; all_goals (with_reducible rfl)
            simp only [Act.put, List.setIfInBounds_toArray, List.set_cons_zero, List.set_cons_succ]
            refine wpAnyH_ready (rs := [1]) (by kernel_rfl) (by simp) ?_
            refine (AllReadyH.cons (o := { dst := some 170, op := Op.call { callee := Callee.value (Operand.func 16), args := #[Operand.tmp 169], argTypes := #[25] }, type := 3, pos := "law.go:110", after := #[{ on := 0, ground := Ground.data }], guard := none }) rfl (fun K hK => ?_) AllReadyH.nil)
            go_simp
            refine (state_any (HT9.out.ms.below hdr).mod).mono ?_
            rintro e x4 ⟨rfl, rfl⟩
            go_wp2_with fail
            refine hK.out _ _ hS (fun _ => ?_)
            clear hK K
            refine wpAnyH_take (i := 6) (oi := { dst := some 175, op := Op.binOp BinOp.neq 3 (Operand.tmp 170) (Operand.tmp 174) 3, type := 4, pos := "law.go:110", after := #[{ on := 1, ground := Ground.data }, { on := 5, ground := Ground.data }], guard := none }) (v := ?vmv11) rfl (by kernel_rfl) (by kernel_rfl) (by kernel_rfl) (fun _ _ _ h => h) (Or.inl ⟨by rfl, ?ymv11⟩) hS ?_
            case ymv11 =>
              intro w hSw
              go_simp; all_goals (with_reducible rfl)
            simp only [Act.put, List.setIfInBounds_toArray, List.set_cons_zero, List.set_cons_succ]
            refine wpAnyH_take (i := 7) (oi := { dst := some 176, op := Op.move (Operand.tmp 175), type := 4, pos := "law.go:110", after := #[{ on := 6, ground := Ground.data }, { on := 1, ground := Ground.chain }], guard := none }) (v := ?vmv12) rfl (by kernel_rfl) (by kernel_rfl) (by kernel_rfl) (fun _ _ _ h => h) (Or.inl ⟨by rfl, ?ymv12⟩) hS ?_
            case ymv12 =>
              intro w hSw
              go_simp; all_goals (with_reducible rfl)
            simp only [Act.put, List.setIfInBounds_toArray, List.set_cons_zero, List.set_cons_succ]
            refine wpAnyH_take (i := 8) (oi := { dst := some 177, op := Op.move (Operand.tmp 13), type := 25, pos := "law.go:110", after := #[{ on := 7, ground := Ground.guard }], guard := some (7, false) }) (v := ?vmv13) rfl (by kernel_rfl) (by kernel_rfl) (by kernel_rfl) (fun _ _ _ h => h) (Or.inl ⟨by rfl, ?ymv13⟩) hS ?_
            case ymv13 =>
              intro w hSw
              go_simp; all_goals (with_reducible rfl)
            simp only [Act.put, List.setIfInBounds_toArray, List.set_cons_zero, List.set_cons_succ]
            refine wpAnyH_take (i := 10) (oi := { dst := some 179, op := Op.move (Operand.tmp 23), type := 32, pos := "law.go:110", after := #[{ on := 7, ground := Ground.guard }], guard := some (7, false) }) (v := ?vmv14) rfl (by kernel_rfl) (by kernel_rfl) (by kernel_rfl) (fun _ _ _ h => h) (Or.inl ⟨by rfl, ?ymv14⟩) hS ?_
            case ymv14 =>
              intro w hSw
              go_simp; all_goals (with_reducible rfl)
            simp only [Act.put, List.setIfInBounds_toArray, List.set_cons_zero, List.set_cons_succ]
            refine wpAnyH_take (i := 11) (oi := { dst := some 180, op := Op.nilCheck (Operand.tmp 179), type := 0, pos := "law.go:110", after := #[{ on := 10, ground := Ground.data }, { on := 7, ground := Ground.guard }], guard := some (7, false) }) (v := ?vmv15) rfl (by kernel_rfl) (by kernel_rfl) (by kernel_rfl) (fun _ _ _ h => h) (Or.inl ⟨by rfl, ?ymv15⟩) hS ?_
            case ymv15 =>
              intro w hSw
              go_simp; all_goals (with_reducible rfl)
            simp only [Act.put, List.setIfInBounds_toArray, List.set_cons_zero, List.set_cons_succ]
            refine wpAnyH_take (i := 12) (oi := { dst := some 181, op := Op.fieldAddr 47 (Operand.tmp 180) 4, type := 0, pos := "law.go:110", after := #[{ on := 11, ground := Ground.data }, { on := 7, ground := Ground.guard }], guard := some (7, false) }) (v := ?vmv16) rfl (by kernel_rfl) (by kernel_rfl) (by kernel_rfl) (fun _ _ _ h => h) (Or.inl ⟨by rfl, ?ymv16⟩) hS ?_
            case ymv16 =>
              intro w hSw
              go_simp; all_goals (with_reducible rfl)
            simp only [Act.put, List.setIfInBounds_toArray, List.set_cons_zero, List.set_cons_succ]
            refine wpAnyH_take (i := 13) (oi := { dst := some 182, op := Op.load 44 (Operand.tmp 181), type := 44, pos := "law.go:110", after := #[{ on := 12, ground := Ground.data }, { on := 7, ground := Ground.guard }], guard := some (7, false) }) (v := ?vmv17) rfl (by kernel_rfl) (by kernel_rfl) (by kernel_rfl) (fun _ _ _ h => h) (Or.inl ⟨by rfl, ?ymv17⟩) hS ?_
            case ymv17 =>
              intro w hSw
              obtain ⟨p3, p4⟩ := HCL.out w hSw
              go_simp; all_goals (with_reducible rfl)
            simp only [Act.put, List.setIfInBounds_toArray, List.set_cons_zero, List.set_cons_succ]
            refine wpAnyH_ready (rs := [9]) (by kernel_rfl) (by simp) ?_
            refine (AllReadyH.cons (o := { dst := some 178, op := Op.call { callee := Callee.value (Operand.func 18), args := #[Operand.tmp 177], argTypes := #[25] }, type := 49, pos := "law.go:110", after := #[{ on := 8, ground := Ground.data }, { on := 7, ground := Ground.chain }, { on := 7, ground := Ground.guard }], guard := some (7, false) }) rfl (fun K hK => ?_) AllReadyH.nil)
            go_simp
            refine (repeats_any (HT9.out.ms.below hdr).mod).mono ?_
            rintro e x13 ⟨rfl, hb13⟩
            have g13 := hdr.trans (hb13.mono hdr.size)
            clear hb13
            go_wp2_with fail
            refine hK.out _ _ g13 (fun _ => ?_)
            clear hK K
            refine wpAnyH_ready (rs := [14]) (by kernel_rfl) (by simp) ?_
            refine (AllReadyH.cons (o := { dst := some 183, op := Op.call { callee := Callee.value (Operand.func 17), args := #[Operand.tmp 178, Operand.tmp 182], argTypes := #[49, 44] }, type := 4, pos := "law.go:110", after := #[{ on := 9, ground := Ground.data }, { on := 13, ground := Ground.data }, { on := 9, ground := Ground.chain }, { on := 7, ground := Ground.guard }], guard := some (7, false) }) rfl (fun K hK => ?_) AllReadyH.nil)
            go_simp
            obtain ⟨b0, b1, b2, b3⟩ := HRC.out x13 g13
            refine (repeats_same (M (n + 1)).r gR capR x13 HCAP.out b0 b1 b2 b3).mono ?_
            rintro e x18 ⟨rfl, hb18⟩
            have g18 := g13.trans (hb18.mono g13.size)
            clear hb18 b0 b1 b2 b3
            go_wp2_with fail
            refine hK.out _ _ g18 (fun _ => ?_)
            clear hK K
            refine wpAnyH_take (i := 15) (oi := { dst := some 184, op := Op.unOp UnOp.not 4 (Operand.tmp 183), type := 4, pos := "law.go:110", after := #[{ on := 14, ground := Ground.data }, { on := 7, ground := Ground.guard }], guard := some (7, false) }) (v := ?vmv18) rfl (by kernel_rfl) (by kernel_rfl) (by kernel_rfl) (fun _ _ _ h => h) (Or.inl ⟨by rfl, ?ymv18⟩) g18 ?_
            case ymv18 =>
              intro w hSw
              go_simp; all_goals (with_reducible rfl)
            simp only [Act.put, List.setIfInBounds_toArray, List.set_cons_zero, List.set_cons_succ]
            refine wpAnyH_take (i := 16) (oi := { dst := some 185, op := Op.pick (Operand.tmp 176) (Operand.const (Value.bool true)) (Operand.tmp 184), type := 4, pos := "law.go:110", after := #[{ on := 7, ground := Ground.data }, { on := 15, ground := Ground.data }], guard := none }) (v := ?vmv19) rfl (by kernel_rfl) (by kernel_rfl) (by kernel_rfl) (fun _ _ _ h => h) (Or.inl ⟨by rfl, ?ymv19⟩) g18 ?_
            case ymv19 =>
              intro w hSw
              go_simp; all_goals (with_reducible rfl)
            simp only [Act.put, List.setIfInBounds_toArray, List.set_cons_zero, List.set_cons_succ]
            refine wpAnyH_done (by kernel_rfl) ?_ _

            have HT10 := Lib.hid (HT9.out.next g18)
            clear hS g13 g18 hdr
            go_wp2_with fail
            exact ⟨⟨n + 1, v10, z', X5, p10, rfl, by go_num, by omega, HT10, Lib.hid ⟨HST6.out.1, HST6.out.2.1, HST6.out.2.2, HSIM.out, HLEN.out⟩⟩, by simp [intOf]; omega⟩
          · have hnlb2 : decide ((n : Int) < (ss.length : Int)) = false := decide_eq_false (by omega)
            obtain rfl : n = ss.length := by omega
            have hMx : (M ss.length).x = x := by rw [HCHN.out.2.2]
            have hMH : (M ss.length).H = H := by rw [HCHN.out.2.2]
            have hsim := HST.out.2.2.2.1
            rw [hMx] at hsim
            have hdone : y.2.done LB = true := sim_done (P := x.1) HLB.out.1.symm hsim
            have hDO := done_any g2 o2 cap2 LB y.2 wr HT.out.ms.io.2
            rw [hdone] at hDO
            have HDO := Lib.hid hDO
            obtain ⟨AK, cK, eK, _, _, hBK, _⟩ := HT.out.hist
            obtain ⟨AF, cF, eF, _, _, hBF, _⟩ := HT.out.rest
            rw [hMH] at eK hBK
            subst eK eF
            have HBKH := Lib.hid hBK
            have HBFH := Lib.hid hBF
            have HTB := Lib.hid HT.out.below
            clear hMx hMH hsim hdone hDO hBK hBF HT HST
            go_wp2_with fail
            refine HDO.out.mono ?_
            rintro e w5 ⟨rfl, hb5⟩
            have k1 := run_str (HBKH.out.below hb5) cK
            have k2 := run_str (HBFH.out.below hb5) cF
            have HB5 := Lib.hid (HTB.out.trans (hb5.mono HTB.out.size))
            clear hb5
            go_wp2_with fail
            refine (knows_any _).mono ?_
            rintro e w6 ⟨rfl, hb6⟩
            go_wp2_with fail
            go_ret
            exact ⟨rfl, HB5.out.trans (hb6.mono HB5.out.size)⟩
end Go.Proofs.Ytiodlhieaajcgaa
