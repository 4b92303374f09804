/- Several texts in one: ChqMay, ChqFine, UbLaw. -/
import Derived.Test.YtkckjjchfccdjaaMg17
import Derived.Test.YtkckjjchfccdjaaMg12
import Derived.Test.YtkckjjchfccdjaaMg1
import Derived.Test.YtkckjjchfccdjaaUcBackM
import Derived.Test.YtkckjjchfccdjaaMg32
import Derived.Test.YtkckjjchfccdjaaChkPackG
import Derived.Deep.RegionHeld3
/- Which properties may be: see the text imported. -/
namespace Go.Proofs.Ytkckjjchfccdjaa
end Go.Proofs.Ytkckjjchfccdjaa

/- The reference's chunks: which options are fine; a number in two bytes. -/
namespace Go.Proofs.Ytkckjjchfccdjaa
set_option maxRecDepth 100000
open Go.RowKit

set_option maxRecDepth 100000 in
set_option maxHeartbeats 4000000 in
theorem rfine_any (lc lp pb nice chunk block check : Int) (chain : Value) (dict : Nat) (w : World) :
    Calls Try.prog 8 #[OptV lc lp pb nice chunk block check chain dict] w (BoolDone (fineB lc lp pb nice chunk dict) w) := by
  obtain ⟨R, hR⟩ : ∃ R, fineB lc lp pb nice chunk dict = R := ⟨_, rfl⟩
  rw [hR]
  obtain ⟨W, hW⟩ : ∃ W, w.alloc (.cells #[.int .i64 lc, .int .i64 lp, .int .i64 pb, .int .i64 nice, .int .i64 chunk, .int .i64 block, .int .i64 check, chain, .int .u32 (dict : Nat)] 33) = W := ⟨_, rfl⟩
  obtain ⟨hrow, hbW⟩ := optBox (vs := optRow lc lp pb nice chunk block check chain dict) hW
  have c0 : W.cell? ⟨w.heap.size, 0, none⟩ = some (.int .i64 lc) := by rw [cell_of_row W _ _ _ _ _ hrow]; rfl
  have c1 : W.cell? ⟨w.heap.size, 1, none⟩ = some (.int .i64 lp) := by rw [cell_of_row W _ _ _ _ _ hrow]; rfl
  have c2 : W.cell? ⟨w.heap.size, 2, none⟩ = some (.int .i64 pb) := by rw [cell_of_row W _ _ _ _ _ hrow]; rfl
  have c3 : W.cell? ⟨w.heap.size, 3, none⟩ = some (.int .i64 nice) := by rw [cell_of_row W _ _ _ _ _ hrow]; rfl
  have c4 : W.cell? ⟨w.heap.size, 4, none⟩ = some (.int .i64 chunk) := by rw [cell_of_row W _ _ _ _ _ hrow]; rfl
  have c8 : W.cell? ⟨w.heap.size, 8, none⟩ = some (.int .u32 (dict : Nat)) := by rw [cell_of_row W _ _ _ _ _ hrow]; rfl
  have HW := Lib.hid hW
  have HBW := Lib.hid hbW
  have HM := Lib.hid (may_any lc lp pb W)
  clear hrow hW hbW
  cases hp : permB lc lp pb with
  | false =>
    rw [hp] at HM
    have HRf : Hid (R = false) := Lib.hid (by rw [← hR]; unfold fineB; rw [hp]; rfl)
    clear hp hR
    go_enter Try.func8, Try.ntmps8
    go_upto_region 1 with fail
    rw [HW.out]
    go_wp2_with fail
    refine HM.out.mono ?_
    rintro e w1 ⟨rfl, rfl⟩
    go_wp2_with fail
    go_ret
    exact ⟨by rw [HRf.out]; rfl, HBW.out⟩
  | true =>
    rw [hp] at HM
    have hRv : R = decide ((2 ≤ nice ∧ nice ≤ 273) ∧ (1 ≤ chunk ∧ chunk ≤ 65536) ∧ 4096 ≤ dict ∧ dict ≤ 67108864) := by rw [← hR]; unfold fineB; rw [hp]; rfl
    clear hp hR
    rcases (by omega : ¬ 2 ≤ nice ∨ (2 ≤ nice ∧ ¬ nice ≤ 273) ∨ ((2 ≤ nice ∧ nice ≤ 273) ∧ ¬ 1 ≤ chunk) ∨ ((2 ≤ nice ∧ nice ≤ 273) ∧ 1 ≤ chunk ∧ ¬ chunk ≤ 65536) ∨ ((2 ≤ nice ∧ nice ≤ 273) ∧ (1 ≤ chunk ∧ chunk ≤ 65536) ∧ ¬ (4096 : Int) ≤ (dict : Int)) ∨ ((2 ≤ nice ∧ nice ≤ 273) ∧ (1 ≤ chunk ∧ chunk ≤ 65536) ∧ (4096 : Int) ≤ (dict : Int) ∧ ¬ (dict : Int) ≤ 67108864) ∨ ((2 ≤ nice ∧ nice ≤ 273) ∧ (1 ≤ chunk ∧ chunk ≤ 65536) ∧ (4096 : Int) ≤ (dict : Int) ∧ (dict : Int) ≤ 67108864)) with g1 | ⟨g1, g2⟩ | ⟨⟨g1, g2⟩, g3⟩ | ⟨⟨g1, g2⟩, g3, g4⟩ | ⟨⟨g1, g2⟩, ⟨g3, g4⟩, g5⟩ | ⟨⟨g1, g2⟩, ⟨g3, g4⟩, g5, g6⟩ | ⟨⟨g1, g2⟩, ⟨g3, g4⟩, g5, g6⟩
    all_goals
      have HRf := Lib.hid (show R = false ∨ R = true from by cases R <;> simp)
      have HRd : Hid (R = decide ((2 ≤ nice ∧ nice ≤ 273) ∧ (1 ≤ chunk ∧ chunk ≤ 65536) ∧ 4096 ≤ dict ∧ dict ≤ 67108864)) := Lib.hid hRv
      clear hRv HRf
      go_enter Try.func8, Try.ntmps8
      go_upto_region 1 with fail
      rw [HW.out]
      go_wp2_with fail
      refine HM.out.mono ?_
      rintro e w1 ⟨rfl, rfl⟩
      go_wp2_with fail
      go_ret
      first
        | exact ⟨by rw [show R = false from by rw [HRd.out]; exact decide_eq_false (by omega)]; rfl, HBW.out⟩
        | exact ⟨by rw [show R = decide ((dict : Int) ≤ 67108864) from by rw [HRd.out]; exact decide_eq_decide.2 (by omega)]; rfl, HBW.out⟩
        | exact ⟨by rw [show R = true from by rw [HRd.out]; exact decide_eq_true (by omega)]; rfl, HBW.out⟩
end Go.Proofs.Ytkckjjchfccdjaa

/- The contract of the law UnchunkBack. -/
namespace Go.Proofs.Ytkckjjchfccdjaa
set_option maxRecDepth 100000
open Go.RowKit

set_option maxHeartbeats 8000000 in
theorem ucback_law (A : Option Addr) (D : List UInt8) (c : Nat) (lc lp pb nice chunk block check : Int) (chain : Value) (dict : Nat) (A2 : Option Addr) (E : List UInt8) (c2 : Nat) (more : Nat) (w : World) (hB : Bytes w A D ∧ ∀ a, A = some a → a.block < w.heap.size) (hc : D.length ≤ c) (hm : c ≤ 9223372036854775807) (hdi : dict < 4294967296) (hB2 : Bytes w A2 E ∧ ∀ a, A2 = some a → a.block < w.heap.size) (_hc2 : E.length ≤ c2) (_hm2 : c2 ≤ 9223372036854775807) (hmo : more < 65536) :
    Calls Try.prog 4 #[.slice A D.length c, OptV lc lp pb nice chunk block check chain dict, .slice A2 E.length c2, .int .u16 (more : Nat)] w (Holds w) := by
  obtain ⟨W, hW⟩ : ∃ W, w.alloc (.cells #[.int .i64 lc, .int .i64 lp, .int .i64 pb, .int .i64 nice, .int .i64 chunk, .int .i64 block, .int .i64 check, chain, .int .u32 (dict : Nat)] 33) = W := ⟨_, rfl⟩
  obtain ⟨hrow, hbW⟩ := optBox (vs := optRow lc lp pb nice chunk block check chain dict) hW
  have HCE : Hid (∀ W', Below W.heap.size W W' → W'.cell? ⟨w.heap.size, 0, none⟩ = some (.int .i64 lc) ∧ W'.cell? ⟨w.heap.size, 1, none⟩ = some (.int .i64 lp) ∧ W'.cell? ⟨w.heap.size, 2, none⟩ = some (.int .i64 pb) ∧ W'.cell? ⟨w.heap.size, 3, none⟩ = some (.int .i64 nice) ∧ W'.cell? ⟨w.heap.size, 4, none⟩ = some (.int .i64 chunk) ∧ W'.cell? ⟨w.heap.size, 5, none⟩ = some (.int .i64 block) ∧ W'.cell? ⟨w.heap.size, 6, none⟩ = some (.int .i64 check) ∧ W'.cell? ⟨w.heap.size, 7, none⟩ = some chain ∧ W'.cell? ⟨w.heap.size, 8, none⟩ = some (.int .u32 (dict : Nat))) := Lib.hid (fun W' hb' => by
    have r := (hb'.block _ (Array.getElem?_eq_some_iff.1 hrow).1).trans hrow
    refine ⟨?_, ?_, ?_, ?_, ?_, ?_, ?_, ?_, ?_⟩ <;> (rw [cell_of_row W' _ _ _ _ _ r]; rfl))
  obtain ⟨k0, k1, k2, k3, k4, k5, k6, k7, k8⟩ := HCE.out W (Below.refl _ _)
  have HW := Lib.hid hW
  have HBW := Lib.hid hbW
  have HB := Lib.hid hB
  have HB2 := Lib.hid hB2
  have HCC := Lib.hid (And.intro hc hm)
  have hmi : (D.length : Int) ≤ 9223372036854775807 := by omega
  have hmi2 : (E.length : Int) ≤ 9223372036854775807 := by omega
  clear hrow hW hbW hB hB2 hc hm
  by_cases hbig : (400 : Int) < (D.length : Int)
  · go_enter Try.func4, Try.ntmps4
    go_upto_region 1 with fail
    rw [HW.out]
    go_wp2_with fail
    refine (ucknows_any W).mono ?_
    rintro e w1 ⟨rfl, hb⟩
    go_wp2_with fail
    go_ret
    exact ⟨rfl, HBW.out.trans (hb.mono HBW.out.size)⟩
  by_cases hbig2 : (50 : Int) < (E.length : Int)
  · go_enter Try.func4, Try.ntmps4
    go_upto_region 1 with fail
    rw [HW.out]
    go_wp2_with fail
    refine (ucknows_any W).mono ?_
    rintro e w1 ⟨rfl, hb⟩
    go_wp2_with fail
    go_ret
    exact ⟨rfl, HBW.out.trans (hb.mono HBW.out.size)⟩
  have HRF := Lib.hid (fun (W : World) => rfine_any lc lp pb nice chunk block check chain dict W)
  have e400 : decide ((400 : Int) < (D.length : Int)) = false := decide_eq_false hbig
  have e50 : decide ((50 : Int) < (E.length : Int)) = false := decide_eq_false hbig2
  cases hf : fineB lc lp pb nice chunk dict with
  | false =>
    rw [hf] at HRF
    clear hf
    go_enter Try.func4, Try.ntmps4
    go_upto_region 1 with fail
    rw [HW.out]
    go_wp2_with fail
    refine (HRF.out W).mono ?_
    rintro e w1 ⟨rfl, hb1⟩
    have HB1 := Lib.hid hb1
    clear hb1
    go_wp2_with fail
    refine (ucknows_any w1).mono ?_
    rintro e w2 ⟨rfl, hb⟩
    go_wp2_with fail
    go_ret
    exact ⟨rfl, HBW.out.trans ((HB1.out.trans (hb.mono HB1.out.size)).mono HBW.out.size)⟩
  | true =>
    have hf2 := hf
    unfold fineB permB at hf2
    rw [Bool.and_eq_true, decide_eq_true_iff, decide_eq_true_iff] at hf2
    obtain ⟨p1, p2, p3, p4⟩ := hf2
    obtain ⟨lc, rfl⟩ : ∃ n : Nat, lc = n := ⟨lc.toNat, by omega⟩
    obtain ⟨lp, rfl⟩ : ∃ n : Nat, lp = n := ⟨lp.toNat, by omega⟩
    obtain ⟨pb, rfl⟩ : ∃ n : Nat, pb = n := ⟨pb.toNat, by omega⟩
    obtain ⟨k, hk⟩ : ∃ k : PkS, (⟨A, D, c, lc, lp, pb, nice, chunk, block, check, chain, dict, 0⟩ : PkS) = k := ⟨_, rfl⟩
    have hkD : k.D = D ∧ k.dict = dict := by rw [← hk]; exact ⟨rfl, rfl⟩
    obtain ⟨PB, hPB⟩ : ∃ PB, packB k = PB := ⟨_, rfl⟩
    have hok : PkO k (OptV (lc : Nat) (lp : Nat) (pb : Nat) nice chunk block check chain dict) := by rw [← hk]; exact ⟨rfl, show lc ≤ 4 by omega, show lp ≤ 4 by omega, show pb ≤ 4 by omega, show lc + lp ≤ 4 by omega, p2, p3, p4⟩
    have hbk : BkOpt k := ⟨⟨hok.lc, hok.lp, hok.pb, hok.lclp⟩, hok.nice.2, by have := hok.dict; omega, by rw [hkD.1]; omega⟩
    have HPK : Hid (∀ W2 : World, Below W.heap.size W W2 → Calls Try.prog 9 #[.slice A D.length c, OptV (lc : Nat) (lp : Nat) (pb : Nat) nice chunk block check chain dict] W2 (PackDone W2 PB)) := Lib.hid (fun W2 h2 => by
      have hbw := HBW.out.trans (h2.mono HBW.out.size)
      have h : Calls Try.prog 9 #[.slice A D.length c, OptV (lc : Nat) (lp : Nat) (pb : Nat) nice chunk block check chain dict] W2 (PackDone W2 (packB ⟨A, D, c, lc, lp, pb, nice, chunk, block, check, chain, dict, 0⟩)) := pack_good ⟨A, D, c, lc, lp, pb, nice, chunk, block, check, chain, dict, 0⟩ _ W2 (by rw [hk]; exact hok) (HB.out.1.below hbw) (fun a ha => Nat.lt_of_lt_of_le (HB.out.2 a ha) hbw.size) HCC.out.1 (show D.length ≤ 100000 by omega)
      rw [hk, hPB] at h
      exact h)
    have hpl := packB_four (k := k) (show 1 ≤ k.chunk.toNat by have := hok.chunk; omega)
    rw [hPB, hkD.1] at hpl
    have hpos : 1 ≤ PB.length := by rw [← hPB]; unfold packB; rw [List.length_append]; simp
    have hback : ∀ d : Int, (dict : Int) ≤ d → unchunkAll (PB ++ E) d 4000 0 ck0 = (D, PB.length, 0) ∧ CkShort (PB ++ E) d 4000 0 ck0 := fun d hd => by
      have h := pack_back (k := k) (dict := d) hbk hok.chunk (by rw [hkD.2]; exact hd) E (fuel := 4000) (by rw [hPB, List.length_append]; omega)
      rw [hPB, hkD.1] at h
      exact h
    have hcut : unchunkAll (PB.take (PB.length - 1)) (dict : Int) 4000 0 ck0 = ([], 0, 2) ∧ CkShort (PB.take (PB.length - 1)) (dict : Int) 4000 0 ck0 := by
      have h := pack_cut (k := k) (dict := (dict : Nat)) hbk hok.chunk (by rw [hkD.2]; exact Int.le_refl _) (fuel := 4000) (by rw [hPB]; omega)
      rw [hPB] at h
      exact h
    have HBK := Lib.hid (And.intro hback (And.intro hcut (And.intro hpl hpos)))
    obtain ⟨dm, hdm⟩ : ∃ m : Nat, dict + more = m := ⟨_, rfl⟩
    have hdmi : (dict : Int) + (more : Int) = (dm : Int) := by omega
    have HDM := Lib.hid (show (dict : Int) ≤ (dm : Int) ∧ 1 ≤ (dict : Int) ∧ (dm : Int) ≤ 9223372036854775807 ∧ (dict : Int) ≤ 67108864 by omega)
    have hd6 : (dict : Int) ≤ 67108864 := by omega
    have hmoi : (more : Int) < 65536 := by omega
    rw [hf] at HRF
    clear hf p1 p2 p3 p4 hPB hok hk hkD hbk hpl hpos hback hcut hdm
    go_enter Try.func4, Try.ntmps4
    go_upto_region 1 with fail
    rw [HW.out]
    go_wp2_with fail
    refine (HRF.out W).mono ?_
    rintro e w1 ⟨rfl, hb1⟩
    have HB1 := Lib.hid hb1
    clear hb1 k0 k1 k2 k3 k4 k5 k6 k7 k8
    obtain ⟨k0, k1, k2, k3, k4, k5, k6, k7, k8⟩ := HCE.out w1 HB1.out
    go_wp2_with fail
    refine (HPK.out w1 HB1.out).mono ?_
    rintro e w2 ⟨v3, rfl, ho3, hb2⟩
    obtain ⟨A3, c3, rfl, hc3, hm3, hB3⟩ := ho3.read
    have hA3 : ∀ a, A3 = some a → a.block < w2.heap.size := fun a ha => (ho3.from_base a.block (by rw [ha]; rfl)).2
    have HBP := Lib.hid (And.intro hB3 (And.intro hA3 (And.intro hc3 hm3)))
    have HBW2 := Lib.hid (HB1.out.trans (hb2.mono HB1.out.size))
    have HG2 : Hid (Below w2.heap.size w2 (w2.alloc (.cells #[] 5))) := Lib.hid ((Below.refl _ _).alloc (Nat.le_refl _) _)
    have hpl3 : (PB.length : Int) ≤ (c3 : Int) := by omega
    clear ho3 hB3 hA3 hb2 hc3 hm3 k0 k1 k2 k3 k4 k5 k6 k7 k8
    go_upto_region 7 with (first
      | (at_builtin; refine wpList_append_bytes rfl (.tmp 40) (.tmp 41) rfl w2.heap.size (w2.alloc (.cells #[] 5)) (.slice (some ⟨w2.heap.size, 0, none⟩) 0 0) [] rfl (empty_own w2) A3 PB c3 rfl (HBP.out.1.below HG2.out) (by have := HBK.out.2.2.1; simp; omega) HG2.out.size ?_; intro v4 w3 ho4 hg4; have H4 := Lib.hid (And.intro (show Own w2.heap.size w3 v4 PB from ho4) (below_grown HG2.out hg4 HG2.out.size (fun g e => ((empty_own w2).from_base g e).1))); clear ho4 hg4)
      | (at_builtin; refine wpList_append_bytes rfl (.tmp 42) (.tmp 43) rfl w2.heap.size w3 v4 PB rfl H4.out.1 A2 E c2 rfl (HB2.out.1.below (HBW.out.trans ((HBW2.out.trans (H4.out.2.mono HBW2.out.size)).mono HBW.out.size))) (by have := HBK.out.2.2.1; omega) H4.out.2.size ?_; intro v5 w4 ho5 hg5; have H5 := Lib.hid (And.intro ho5 (below_grown H4.out.2 hg5 H4.out.2.size (fun g e => (H4.out.1.from_base g e).1))); clear ho5 hg5))
    obtain ⟨A5, c5, rfl, hc5, hm5, hB5⟩ := H5.out.1.read
    have hA5 : ∀ a, A5 = some a → a.block < w4.heap.size := fun a ha => (H5.out.1.from_base a.block (by rw [ha]; rfl)).2
    have hr1 := ucread_any A5 (PB ++ E) c5 (dm : Nat) w4 hB5 hA5 hc5 hm5 (by have := HBK.out.2.2.1; rw [List.length_append]; omega) (by have := HDM.out; omega) HDM.out.2.2.1 (fuel := 4000) (by have := HBK.out.2.2.1; rw [List.length_append]; omega) (HBK.out.1 _ HDM.out.1).2
    rw [(HBK.out.1 _ HDM.out.1).1] at hr1
    obtain ⟨al, hal⟩ : ∃ n, (PB ++ E).length = n := ⟨_, rfl⟩
    rw [hal] at hr1 ⊢
    have HR1 := Lib.hid hr1
    have HBW4 := Lib.hid (HBW2.out.trans (H5.out.2.mono HBW2.out.size))
    clear hB5 hA5 hc5 hm5 hr1 hal
    obtain ⟨k0, k1, k2, k3, k4, k5, k6, k7, k8⟩ := HCE.out w4 HBW4.out
    go_wp2_with fail
    refine HR1.out.mono ?_
    rintro e w5 ⟨A6, c6, rfl, hc6, hB6, hb6⟩
    have HBW5 := Lib.hid (HBW4.out.trans (hb6.mono HBW4.out.size))
    have HB25 := Lib.hid (H5.out.2.trans (hb6.mono H5.out.2.size))
    have HB6 := Lib.hid hB6
    obtain ⟨pl, hpl⟩ : ∃ n, PB.length - 1 = n := ⟨_, rfl⟩
    have hpos := HBK.out.2.2.2
    have hpli : (PB.length : Int) - 1 = (pl : Int) := by omega
    have hplc : (pl : Int) ≤ (c3 : Int) := by omega
    have hplcn : pl ≤ c3 := by omega
    have hposi : 0 < PB.length := by omega
    have hp400 : (PB.length : Int) ≤ 1700 := by have := HBK.out.2.2.1; omega
    have hc3i : (c3 : Int) ≤ 9223372036854775807 := by have := HBP.out.2.2.2; omega
    have hwp : IntKind.i64.wrap (pl : Int) = (pl : Int) := IntWalk.i64_in _ (by omega)
    have hwd : IntKind.i64.wrap (dict : Int) = (dict : Int) := IntWalk.i64_in _ (by have := HDM.out; omega)
    have HR2 : Hid (∀ W2 : World, Below w5.heap.size w5 W2 → Calls Try.prog 6 #[.slice A3 pl c3, .int .i64 (dict : Nat)] W2 (UcDone W2 ([], 0, 2))) := Lib.hid (fun W2 h2 => by
      have hb := HB25.out.trans (h2.mono HB25.out.size)
      have hl : (PB.take (PB.length - 1)).length = pl := by rw [List.length_take]; omega
      have h := ucread_any A3 (PB.take (PB.length - 1)) c3 (dict : Nat) W2 ((HBP.out.1.below hb).take _) (fun a ha => Nat.lt_of_lt_of_le (HBP.out.2.1 a ha) hb.size) (by omega) (by omega) (by have := HBK.out.2.2.1; omega) HDM.out.2.1 (by have := HDM.out; omega) (fuel := 4000) (by have := HBK.out.2.2.1; omega) HBK.out.2.1.2
      rw [HBK.out.2.1.1, hl] at h
      exact h)
    have HC8 : Hid (∀ W2 : World, Below w5.heap.size w5 W2 → W2.cell? ⟨w.heap.size, 8, none⟩ = some (.int .u32 (dict : Nat))) := Lib.hid (fun W2 h2 => by
      obtain ⟨_, _, _, _, _, _, _, _, q⟩ := HCE.out W2 (HBW5.out.trans (h2.mono HBW5.out.size))
      exact q)
    have hdr := drew_below w5
    have HNU := Lib.hid (And.intro hpli (And.intro hplc (And.intro hplcn (And.intro hp400 (And.intro hc3i (And.intro hwp hwd))))))
    clear hpli hplc hplcn hp400 hc3i hwp hwd hpl3 hdmi hd6 hmoi hmi hmi2 e400 e50 hbig hbig2
    clear hc6 hB6 hb6 hpl hpos k0 k1 k2 k3 k4 k5 k6 k7 k8
    go_upto_region 9 with fail
    clear hposi
    obtain ⟨hpli, hplc, hplcn, hp400, hc3i, hwp, hwd⟩ := HNU.out
    refine wp_region_held_drew (S := fun W => Below w5.heap.size w5 W) (by kernel_rfl) hdr (fun hS => ?_)
    refine tk 0 (v := ?vub1) ?yub1 hS ?_
    case yub1 =>
      intro w hSw
      go_simp; all_goals (with_reducible rfl)
    simp only [Act.put, List.setIfInBounds_toArray, List.set_cons_zero, List.set_cons_succ]
    refine tk 1 (v := ?vub2) ?yub2 hS ?_
    case yub2 =>
      intro w hSw
      go_simp; all_goals (with_reducible rfl)
    simp only [Act.put, List.setIfInBounds_toArray, List.set_cons_zero, List.set_cons_succ]
    refine tk 2 (v := ?vub3) ?yub3 hS ?_
    case yub3 =>
      intro w hSw
      go_simp; all_goals (with_reducible rfl)
    simp only [Act.put, List.setIfInBounds_toArray, List.set_cons_zero, List.set_cons_succ]
    refine tk 3 (v := ?vub4) ?yub4 hS ?_
    case yub4 =>
      intro w hSw
      go_simp; all_goals (with_reducible rfl)
    simp only [Act.put, List.setIfInBounds_toArray, List.set_cons_zero, List.set_cons_succ]
    refine tk 4 (v := .slice A3 pl c3) ?yub5 hS ?_
    case yub5 =>
      intro w hSw
      go_simp; all_goals (with_reducible rfl)
    simp only [Act.put, List.setIfInBounds_toArray, List.set_cons_zero, List.set_cons_succ]
    refine tk 5 (v := ?vub6) ?yub6 hS ?_
    case yub6 =>
      intro w hSw
      go_simp; all_goals (with_reducible rfl)
    simp only [Act.put, List.setIfInBounds_toArray, List.set_cons_zero, List.set_cons_succ]
    refine tk 6 (v := ?vub7) ?yub7 hS ?_
    case yub7 =>
      intro w hSw
      have q8 := HC8.out w hSw
      go_simp; all_goals (with_reducible rfl)
    simp only [Act.put, List.setIfInBounds_toArray, List.set_cons_zero, List.set_cons_succ]
    refine tk 7 (v := ?vub8) ?yub8 hS ?_
    case yub8 =>
      intro w hSw
      go_simp; all_goals (with_reducible rfl)
    simp only [Act.put, List.setIfInBounds_toArray, List.set_cons_zero, List.set_cons_succ]
    refine wpAnyH_ready (rs := [8]) (by kernel_rfl) (by simp) ?_
    refine (AllReadyH.cons (o := { dst := some 69, op := Op.call { callee := Callee.value (Operand.func 6), args := #[Operand.tmp 65, Operand.tmp 68], argTypes := #[22, 3] }, type := 25, pos := "law.go:50", after := #[{ on := 4, ground := Ground.data }, { on := 7, ground := Ground.data }], guard := none }) rfl (fun K hK => ?_) AllReadyH.nil)
    go_simp
    refine (HR2.out _ hdr).mono ?_
    rintro e x8 ⟨A8, c8, rfl, hc8, _, hb8⟩
    have g8 : Below w5.heap.size w5 x8 := hdr.trans hb8
    have G8 := Lib.hid g8
    clear hc8 hb8
    go_wp2_with fail
    refine hK.out _ _ g8 (fun _ => ?_)
    clear hK K
    refine tk 9 (v := ?vub9) ?yub9 g8 ?_
    case yub9 =>
      intro w hSw
      go_simp; all_goals (with_reducible rfl)
    simp only [Act.put, List.setIfInBounds_toArray, List.set_cons_zero, List.set_cons_succ]
    refine tk 10 (v := ?vub10) ?yub10 g8 ?_
    case yub10 =>
      intro w hSw
      go_simp; all_goals (with_reducible rfl)
    simp only [Act.put, List.setIfInBounds_toArray, List.set_cons_zero, List.set_cons_succ]
    refine tk 11 (v := ?vub11) ?yub11 g8 ?_
    case yub11 =>
      intro w hSw
      go_simp; all_goals (with_reducible rfl)
    simp only [Act.put, List.setIfInBounds_toArray, List.set_cons_zero, List.set_cons_succ]
    refine tk 12 (v := ?vub12) ?yub12 g8 ?_
    case yub12 =>
      intro w hSw
      go_simp; all_goals (with_reducible rfl)
    simp only [Act.put, List.setIfInBounds_toArray, List.set_cons_zero, List.set_cons_succ]
    refine tk 13 (v := ?vub13) ?yub13 g8 ?_
    case yub13 =>
      intro w hSw
      go_simp; all_goals (with_reducible rfl)
    simp only [Act.put, List.setIfInBounds_toArray, List.set_cons_zero, List.set_cons_succ]
    refine tk 14 (v := ?vub14) ?yub14 g8 ?_
    case yub14 =>
      intro w hSw
      go_simp; all_goals (with_reducible rfl)
    simp only [Act.put, List.setIfInBounds_toArray, List.set_cons_zero, List.set_cons_succ]
    refine tk 15 (v := ?vub15) ?yub15 g8 ?_
    case yub15 =>
      intro w hSw
      go_simp; all_goals (with_reducible rfl)
    simp only [Act.put, List.setIfInBounds_toArray, List.set_cons_zero, List.set_cons_succ]
    refine wpAnyH_done (by kernel_rfl) ?_ _
    clear hS hdr HR2 HC8
    have s1 := run_str (HB6.out.below G8.out) c6
    have s2 := run_str (HB.out.1.below (HBW.out.trans ((HBW5.out.trans (G8.out.mono HBW5.out.size)).mono HBW.out.size))) c
    go_wp2_with fail
    refine (ucknows_any _).mono ?_
    rintro e w9 ⟨rfl, hb9⟩
    have HFIN := Lib.hid (HBW.out.trans (((HBW5.out.trans (G8.out.mono HBW5.out.size)).trans (hb9.mono (HBW5.out.trans (G8.out.mono HBW5.out.size)).size)).mono HBW.out.size))
    clear hb9
    go_wp2_with fail
    go_ret
    exact ⟨rfl, HFIN.out⟩
end Go.Proofs.Ytkckjjchfccdjaa
