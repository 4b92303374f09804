/- Several texts in one: QrLen, QrDist. -/
import Derived.Test.YtkckjjchfccdjaaMg22
import Derived.Test.YtkckjjchfccdjaaMg10
import Derived.Test.YtkckjjchfccdjaaRdRef2
/- The reference's Reader: lengths, and which repeat. -/
namespace Go.Proofs.Ytkckjjchfccdjaa
set_option maxRecDepth 100000
open Go.RowKit

set_option maxRecDepth 100000 in
set_option maxHeartbeats 2000000 in
theorem qlength_any {gd o cap R C base h b off cc N : Nat} {L : List UInt8} {lc lp pb st : Int} {r : R4} {y : PD} {Y : List Nat} {w : World} (hM : RD w R C base h b off cc N L lc lp pb st r y Y) (hok : (decIo gd o cap L).ok y.2 0) {A p : Nat} (hA : A = 432 ∨ A = 946) (hp : p < 16) (hN1 : 2180 ≤ N) (hN : N ≤ 1000000) (l : Int) {z : Nat × PD} (hz : Md.len (decIo gd o cap L) A p l y = z) :
    Calls Try.prog 58 #[PF R, .int .i64 (A : Nat), .int .i64 (p : Nat)] w (MAnd ((decIo gd o cap L).ok z.2.2 0 ∧ 2 ≤ z.1 ∧ z.1 ≤ 273) (QDone (.int .i64 (z.1 : Nat)) R C base h b off cc N L lc lp pb st r z.2 Y w)) := by
  obtain ⟨Q, hQ⟩ : ∃ Q, ((decIo gd o cap L).ok z.2.2 0 ∧ 2 ≤ z.1 ∧ z.1 ≤ 273) = Q := ⟨_, rfl⟩
  rw [hQ]
  have HQ := Lib.hid hQ
  have HA := Lib.hid hA
  have hAi : (A : Int) ≤ 946 := by omega
  have hpi : (p : Int) < 16 := by omega
  unfold Md.len at hz
  obtain ⟨⟨b1, y1⟩, hy⟩ : ∃ q, (decIo gd o cap L).bitAt A (decide (8 ≤ l - 2)) y = q := ⟨_, rfl⟩
  obtain ⟨h1, ok1⟩ := qbit_is hM hok (i := A) (by omega) _ hy
  simp only [hy] at hz
  simp only at h1 ok1
  have HB1 := Lib.hid h1
  have HOK1 := Lib.hid ok1
  clear hQ hM hok hy h1 ok1
  cases b1 with
  | false =>
    simp only [if_true] at hz
    obtain ⟨⟨t, y2⟩, ht⟩ : ∃ q, Md.tree (decIo gd o cap L) (A + 2 + 8 * p) 3 (l - 2) y1 = q := ⟨_, rfl⟩
    rw [ht] at hz
    have HZ := Lib.hid hz
    have HT := Lib.hid ht
    obtain ⟨ai, hai⟩ : ∃ ai, A + 2 + 8 * p = ai := ⟨_, rfl⟩
    have haii : (A : Int) + 2 + 8 * (p : Int) = (ai : Int) := by omega
    have hax := Lib.hid hai
    have hab : ai + 2 ^ 3 ≤ N := by rw [← hai]; have := HA.out; simp; omega
    rw [hai] at HT
    have HAB := Lib.hid hab
    clear hz ht hai hA hab
    simp only [Bool.toNat_false] at HB1
    go_enter Try.func58, Try.ntmps58
    go_wp2_with fail
    refine HB1.out.mono ?_
    rintro e w1 ⟨rfl, hM1, hon1⟩
    have HTR := Lib.hid (qtree_any hM1 HOK1.out (n := 3) (by omega) (at_ := ai) HAB.out hN (l - 2) HT.out)
    have HO1 := Lib.hid hon1
    clear hM1 hon1
    go_wp2_with fail
    refine HTR.out.mono ?_
    rintro e w2 ⟨⟨rfl, hM2, hon2⟩, ok2, hlt⟩
    have hlti : (t : Int) < 8 := by simp at hlt; omega
    have HM2 := Lib.hid hM2
    have HO2 := Lib.hid (HO1.out.same hon2)
    have HOK2 := Lib.hid ok2
    clear hM2 hon2 ok2 hlt
    go_wp2_with fail
    go_ret
    rw [← HQ.out, ← HZ.out]
    exact ⟨⟨by first | rfl | exact congrArg (fun n : Int => Ending.returned (Value.int .i64 n)) (by go_num), HM2.out, HO2.out⟩, HOK2.out, by show 2 ≤ 2 + t; omega, by show 2 + t ≤ 273; omega⟩
  | true =>
    simp only [Bool.true_eq_false, if_false] at hz
    obtain ⟨⟨b2, y2⟩, hy⟩ : ∃ q, (decIo gd o cap L).bitAt (A + 1) (decide (16 ≤ l - 2)) y1 = q := ⟨_, rfl⟩
    simp only [hy] at hz
    have HY := Lib.hid hy
    obtain ⟨a1, ha1⟩ : ∃ a1, A + 1 = a1 := ⟨_, rfl⟩
    have ha1i : (A : Int) + 1 = (a1 : Int) := by omega
    have HA1 := Lib.hid (show a1 < N by omega)
    rw [ha1] at HY
    simp only [Bool.toNat_true] at HB1
    clear hy ha1 hA
    cases b2 with
    | false =>
      simp only [if_true] at hz
      obtain ⟨⟨t, y3⟩, ht⟩ : ∃ q, Md.tree (decIo gd o cap L) (A + 130 + 8 * p) 3 (l - 2 - 8) y2 = q := ⟨_, rfl⟩
      rw [ht] at hz
      have HZ := Lib.hid hz
      have HT := Lib.hid ht
      obtain ⟨ai, hai⟩ : ∃ ai, A + 130 + 8 * p = ai := ⟨_, rfl⟩
      have haii : (A : Int) + 130 + 8 * (p : Int) = (ai : Int) := by omega
      have hab : ai + 2 ^ 3 ≤ N := by rw [← hai]; have := HA.out; simp; omega
      rw [hai] at HT
      have HAB := Lib.hid hab
      clear hz ht hai hab
      go_enter Try.func58, Try.ntmps58
      go_wp2_with fail
      refine HB1.out.mono ?_
      rintro e w1 ⟨rfl, hM1, hon1⟩
      obtain ⟨h2, ok2⟩ := qbit_is hM1 HOK1.out (i := a1) HA1.out _ HY.out
      simp only [Bool.toNat_false] at h2 ok2
      have HB2 := Lib.hid h2
      have HOK2 := Lib.hid ok2
      have HO1 := Lib.hid hon1
      clear hM1 hon1 h2 ok2
      go_wp2_with fail
      refine HB2.out.mono ?_
      rintro e w2 ⟨rfl, hM2, hon2⟩
      have HTR := Lib.hid (qtree_any hM2 HOK2.out (n := 3) (by omega) (at_ := ai) HAB.out hN (l - 2 - 8) HT.out)
      have HO2 := Lib.hid (HO1.out.same hon2)
      clear hM2 hon2
      go_wp2_with fail
      refine HTR.out.mono ?_
      rintro e w3 ⟨⟨rfl, hM3, hon3⟩, ok3, hlt⟩
      have hlti : (t : Int) < 8 := by simp at hlt; omega
      have HM3 := Lib.hid hM3
      have HO3 := Lib.hid (HO2.out.same hon3)
      have HOK3 := Lib.hid ok3
      clear hM3 hon3 ok3 hlt
      go_wp2_with fail
      go_ret
      rw [← HQ.out, ← HZ.out]
      exact ⟨⟨by first | rfl | exact congrArg (fun n : Int => Ending.returned (Value.int .i64 n)) (by go_num), HM3.out, HO3.out⟩, HOK3.out, by show 2 ≤ 10 + t; omega, by show 10 + t ≤ 273; omega⟩
    | true =>
      simp only [Bool.true_eq_false, if_false] at hz
      obtain ⟨⟨t, y3⟩, ht⟩ : ∃ q, Md.tree (decIo gd o cap L) (A + 258) 8 (l - 2 - 16) y2 = q := ⟨_, rfl⟩
      rw [ht] at hz
      have HZ := Lib.hid hz
      have HT := Lib.hid ht
      obtain ⟨ai, hai⟩ : ∃ ai, A + 258 = ai := ⟨_, rfl⟩
      have haii : (A : Int) + 258 = (ai : Int) := by omega
      have hab : ai + 2 ^ 8 ≤ N := by rw [← hai]; have := HA.out; simp; omega
      rw [hai] at HT
      have HAB := Lib.hid hab
      clear hz ht hai hab
      go_enter Try.func58, Try.ntmps58
      go_wp2_with fail
      refine HB1.out.mono ?_
      rintro e w1 ⟨rfl, hM1, hon1⟩
      obtain ⟨h2, ok2⟩ := qbit_is hM1 HOK1.out (i := a1) HA1.out _ HY.out
      simp only [Bool.toNat_true] at h2 ok2
      have HB2 := Lib.hid h2
      have HOK2 := Lib.hid ok2
      have HO1 := Lib.hid hon1
      clear hM1 hon1 h2 ok2
      go_wp2_with fail
      refine HB2.out.mono ?_
      rintro e w2 ⟨rfl, hM2, hon2⟩
      have HTR := Lib.hid (qtree_any hM2 HOK2.out (n := 8) (by omega) (at_ := ai) HAB.out hN (l - 2 - 16) HT.out)
      have HO2 := Lib.hid (HO1.out.same hon2)
      clear hM2 hon2
      go_wp2_with fail
      refine HTR.out.mono ?_
      rintro e w3 ⟨⟨rfl, hM3, hon3⟩, ok3, hlt⟩
      have hlti : (t : Int) < 256 := by simp at hlt; omega
      have HM3 := Lib.hid hM3
      have HO3 := Lib.hid (HO2.out.same hon3)
      have HOK3 := Lib.hid ok3
      clear hM3 hon3 ok3 hlt
      go_wp2_with fail
      go_ret
      rw [← HQ.out, ← HZ.out]
      exact ⟨⟨by first | rfl | exact congrArg (fun n : Int => Ending.returned (Value.int .i64 n)) (by go_num), HM3.out, HO3.out⟩, HOK3.out, by show 2 ≤ 18 + t; omega, by show 18 + t ≤ 273; omega⟩
/-- Which repeat, bit after bit. -/
def whGo (io : Io) (st : Nat) (q : Int) : Nat → io.S → Nat × io.S
  | 0, x => (3, x)
  | k + 1, x => if (io.bitAt (204 + 12 * (2 - k) + st) (q != ((2 - k : Nat) : Int)) x).1 = false then (2 - k, (io.bitAt (204 + 12 * (2 - k) + st) (q != ((2 - k : Nat) : Int)) x).2) else whGo io st q k (io.bitAt (204 + 12 * (2 - k) + st) (q != ((2 - k : Nat) : Int)) x).2
theorem whGo_which (io : Io) (st : Nat) (q : Int) (x : io.S) : whGo io st q 3 x = Md.which io st q x := by
  unfold Md.which whGo
  have e0 : 204 + 12 * (2 - 2) + st = 204 + st := by omega
  have f0 : (q != ((2 - 2 : Nat) : Int)) = (q != 0) := rfl
  rw [e0, f0]
  by_cases h0 : (io.bitAt (204 + st) (q != 0) x).1 = false
  · rw [if_pos h0]; simp only [h0, if_true]
  · rw [if_neg h0]
    simp only [if_neg h0]
    generalize (io.bitAt (204 + st) (q != 0) x).2 = x1
    unfold whGo
    have e1 : 204 + 12 * (2 - 1) + st = 216 + st := by omega
    have f1 : (q != ((2 - 1 : Nat) : Int)) = (q != 1) := rfl
    rw [e1, f1]
    by_cases h1 : (io.bitAt (216 + st) (q != 1) x1).1 = false
    · rw [if_pos h1]; simp only [h1, if_true]
    · rw [if_neg h1]
      simp only [if_neg h1]
      generalize (io.bitAt (216 + st) (q != 1) x1).2 = x2
      unfold whGo whGo
      have e2 : 204 + 12 * (2 - 0) + st = 228 + st := by omega
      have f2 : (q != ((2 - 0 : Nat) : Int)) = (q != 2) := rfl
      rw [e2, f2]
      cases h2 : (io.bitAt (228 + st) (q != 2) x2).1 with
      | false => rw [if_pos rfl]; rfl
      | true => rw [if_neg (by decide)]; rfl
theorem whGo_step (io : Io) (st : Nat) (q : Int) (k : Nat) (x : io.S) {n : Nat} (hn : 2 - k = n) {t : Bool × io.S} (ht : io.bitAt (204 + 12 * n + st) (q != (n : Int)) x = t) : whGo io st q (k + 1) x = if t.1 = false then (n, t.2) else whGo io st q k t.2 := by
  subst ht
  subst hn
  rfl
set_option maxRecDepth 100000 in
set_option maxHeartbeats 2000000 in
theorem qrepeat_any {gd o cap R C base h b off cc N : Nat} {L : List UInt8} {lc lp pb st : Nat} {r : R4} {y : PD} {Y : List Nat} {w : World} (hM : RD w R C base h b off cc N L (lc : Nat) (lp : Nat) (pb : Nat) (st : Nat) r y Y) (hok : (decIo gd o cap L).ok y.2 0) (hst : st < 12) (hN1 : 2180 ≤ N) (hN : N ≤ 1000000) (q : Int) {z : Nat × PD} (hz : Md.which (decIo gd o cap L) st q y = z) :
    Calls Try.prog 61 #[PF R] w (MAnd ((decIo gd o cap L).ok z.2.2 0 ∧ z.1 ≤ 3) (QDone (.int .i64 (z.1 : Nat)) R C base h b off cc N L (lc : Nat) (lp : Nat) (pb : Nat) (st : Nat) r z.2 Y w)) := by
  obtain ⟨Q, hQ⟩ : ∃ Q, ((decIo gd o cap L).ok z.2.2 0 ∧ z.1 ≤ 3) = Q := ⟨_, rfl⟩
  rw [hQ]
  have HQ := Lib.hid hQ
  have HGO := Lib.hid ((whGo_which (decIo gd o cap L) st q y).trans hz)
  have HMM := Lib.hid hM
  have HOK0 := Lib.hid hok
  have HST := Lib.hid hst
  clear hQ hz hM hok hst
  go_enter Try.func61, Try.ntmps61
  go_wp2_with fail
  go_loopw [3] (fun v wr => ∃ (n k : Nat) (y' : PD), k + n = 3 ∧ v = .int .i64 (n : Nat) ∧ Hid ((decIo gd o cap L).ok y'.2 0) ∧ Hid (whGo (decIo gd o cap L) st q k y' = z) ∧ Hid (RD wr R C base h b off cc N L (lc : Nat) (lp : Nat) (pb : Nat) (st : Nat) r y' Y ∧ Only Y w wr)) (fun v _ => 3 - (intOf v).toNat)
  case atStart => exact ⟨0, 3, y, rfl, rfl, HOK0, HGO, Lib.hid ⟨HMM.out, Only.refl _ _⟩⟩
  case round =>
    obtain ⟨n, k, y', hk, rfl, HOK, HT, HM⟩ := hrel
    cases k with
    | zero =>
      have hn3 : decide ((n : Int) < 3) = false := decide_eq_false (by omega)
      have hnn : n = 3 := by omega
      have hyz : z = (3, y') := HT.out.symm
      have HYZ := Lib.hid hyz
      clear hyz
      go_wp2_with fail
      go_ret
      subst hnn
      rw [← HQ.out, HYZ.out]
      exact ⟨⟨rfl, HM.out.1, HM.out.2⟩, HOK.out, Nat.le_refl _⟩
    | succ k =>
      have hn3 : decide ((n : Int) < 3) = true := decide_eq_true (by omega)
      have hni : (n : Int) < 3 := by omega
      have hr1 : wr.cell? ⟨R, 1, none⟩ = some (PF C) := by rw [cell_of_row wr _ _ _ _ _ HM.out.1.rbox]; rfl
      have HW := Lib.hid (rwhich_any HM.out.1 HST.out n (by omega))
      obtain ⟨ai, hai⟩ : ∃ ai, 204 + 12 * n + st = ai := ⟨_, rfl⟩
      rw [hai] at HW
      obtain ⟨⟨tb, ty⟩, hy⟩ : ∃ t, (decIo gd o cap L).bitAt ai (q != (n : Int)) y' = t := ⟨_, rfl⟩
      obtain ⟨hb, okb⟩ := qbit_is HM.out.1 HOK.out (i := ai) (by have := HST.out; omega) _ hy
      simp only at hb okb
      have hT2 := (whGo_step (decIo gd o cap L) st q k y' (n := n) (t := (tb, ty)) (by omega) (by rw [hai]; exact hy)).symm.trans HT.out
      simp only at hT2
      have HB := Lib.hid hb
      have HOK2 := Lib.hid okb
      have HK := Lib.hid hk
      clear hb okb hy hai hk
      cases tb with
      | false =>
        simp only [if_true] at hT2
        have HT2 := Lib.hid hT2
        simp only [Bool.toNat_false] at HB
        clear hT2
        go_wp2_with fail
        refine HW.out.mono ?_
        rintro e w1 ⟨rfl, rfl⟩
        go_wp2_with fail
        refine HB.out.mono ?_
        rintro e w1 ⟨rfl, hM1, hon1⟩
        have HM1 := Lib.hid (And.intro hM1 (HM.out.2.same hon1))
        clear hM1 hon1
        go_wp2_with fail
        go_ret
        rw [← HQ.out, ← HT2.out]
        exact ⟨⟨rfl, HM1.out.1, HM1.out.2⟩, HOK2.out, by show n ≤ 3; omega⟩
      | true =>
        simp only [Bool.true_eq_false, if_false] at hT2
        have HT2 := Lib.hid hT2
        simp only [Bool.toNat_true] at HB
        clear hT2
        go_wp2_with fail
        refine HW.out.mono ?_
        rintro e w1 ⟨rfl, rfl⟩
        go_wp2_with fail
        refine HB.out.mono ?_
        rintro e w1 ⟨rfl, hM1, hon1⟩
        have HM1 := Lib.hid (And.intro hM1 (HM.out.2.same hon1))
        clear hM1 hon1 hr1
        go_wp2_with fail
        exact ⟨⟨n + 1, k, ty, by have := HK.out; omega, by go_num, HOK2, HT2, HM1⟩, by simp [intOf]; omega⟩
end Go.Proofs.Ytkckjjchfccdjaa

/- The reference's Reader: distances. -/
namespace Go.Proofs.Ytkckjjchfccdjaa
set_option maxRecDepth 100000
open Go.RowKit

/-- The reader of bits alone has gone on. -/
theorem RD.decoder {R C base h b off cc N : Nat} {L : List UInt8} {lc lp pb st : Int} {r : R4} {y : PD} {Y : List Nat} {w : World} (hM : RD w R C base h b off cc N L lc lp pb st r y Y) : RDecIs w h b off cc L y.2 ∧ ∀ (s2 : Rd.St) (w' : World), RDecIs w' h b off cc L s2 → Only [h] w w' → RD w' R C base h b off cc N L lc lp pb st r (y.1, s2) Y ∧ Only Y w w' := by
  have hrb := hM.rbox
  have houtB := hM.outB
  have hFA := hM.fair
  obtain ⟨Pl, vR, gR, gP, capP, hC, hgR, hE, hPl, hP, rfl⟩ := hM.ex
  refine ⟨hE, fun s2 w' hD2 hon => ?_⟩
  obtain ⟨csP, hrP⟩ := hC.ps.row
  have hRr : ∃ cs, w.heap[gR]? = some (.cells cs 3 (0, 0)) := by
    obtain ⟨g, cap', e, _⟩ := hC.reps.some_of_pos (show 0 < 4 by decide)
    rw [e] at hgR
    injection hgR with hgR
    subst hgR
    have h0 := hC.reps
    rw [e] at h0
    exact h0.row
  obtain ⟨csR, hrR⟩ := hRr
  obtain ⟨xd, yd, _, hD⟩ := id hE
  have n1 : gP ≠ h := qrow_ne hrP hD.blk (by decide)
  have n2 : C ≠ h := qrow_ne hC.box hD.blk (by decide)
  have n3 : gR ≠ h := qrow_ne hrR hD.blk (by decide)
  have n6 : R ≠ h := qrow_ne hrb hD.blk (by decide)
  have bC := hon.block C (Array.getElem?_eq_some_iff.1 hC.box).1 (by simpa using n2)
  have bR := hon.block gR (Array.getElem?_eq_some_iff.1 hrR).1 (by simpa using n3)
  have bP := hon.block gP (Array.getElem?_eq_some_iff.1 hrP).1 (by simpa using n1)
  have bB := hon.block R (Array.getElem?_eq_some_iff.1 hrb).1 (by simpa using n6)
  refine ⟨⟨⟨Pl, vR, gR, gP, capP, ⟨bC.trans hC.box, ?_, ?_⟩, hgR, hD2, hPl, hP, rfl⟩, bB.trans hrb, houtB, hFA⟩, ?_⟩
  · exact hC.reps.keep (fun g e => by rw [hgR] at e; injection e with e; subst e; exact bR)
  · exact hC.ps.keep (fun g e => by injection e with e; subst e; exact bP)
  · exact ⟨hon.os, hon.tape, hon.output, hon.size, fun k hk hX => hon.block k hk (fun h2 => hX (by simp at h2; simp [h2]))⟩
theorem qplain_is {gd o cap R C base h b off cc N : Nat} {L : List UInt8} {lc lp pb st : Int} {r : R4} {y : PD} {Y : List Nat} {w : World} (hM : RD w R C base h b off cc N L lc lp pb st r y Y) (hok : (decIo gd o cap L).ok y.2 0) {m : Nat} (hm : m ≤ 32) (a : Nat) {t : Nat × Rd.St} (ht : (decIo gd o cap L).plain y.2 a m = t) :
    Calls Try.prog 80 #[PF h, .int .i64 (m : Nat)] w (QDone (.int .u32 (t.1 : Nat)) R C base h b off cc N L lc lp pb st r (y.1, t.2) Y w) ∧ (decIo gd o cap L).ok t.2 0 ∧ t.1 < 2 ^ m := by
  subst ht
  obtain ⟨hE, hgo⟩ := hM.decoder
  refine ⟨(rdplain_any h b off cc L y.2 m w hE hok.1 hok.2 hm).mono ?_, (decIo gd o cap L).okPlain (n := 0) hok hm, (decIo gd o cap L).plainLt (n := 0) (x := 0) hok (Nat.pow_pos (by decide))⟩
  rintro e w' ⟨rfl, hD, hon⟩
  exact ⟨rfl, hgo _ _ hD hon⟩
set_option maxRecDepth 100000 in
set_option maxHeartbeats 2000000 in
theorem qdistance_any {gd o cap R C base h b off cc N : Nat} {L : List UInt8} {lc lp pb st : Int} {r : R4} {y : PD} {Y : List Nat} {w : World} (hM : RD w R C base h b off cc N L lc lp pb st r y Y) (hok : (decIo gd o cap L).ok y.2 0) {l : Nat} (h2 : 2 ≤ l) (h3 : l ≤ 300) (hN1 : 2180 ≤ N) (hN : N ≤ 1000000) (dd : Int) {z : Nat × PD} (hz : Md.dist (decIo gd o cap L) l dd y = z) :
    Calls Try.prog 60 #[PF R, .int .i64 (l : Nat)] w (MAnd ((decIo gd o cap L).ok z.2.2 0 ∧ 1 ≤ z.1 ∧ z.1 ≤ 4294967296) (QDone (.int .i64 (z.1 : Nat)) R C base h b off cc N L lc lp pb st r z.2 Y w)) := by
  obtain ⟨Q, hQ⟩ : ∃ Q, ((decIo gd o cap L).ok z.2.2 0 ∧ 1 ≤ z.1 ∧ z.1 ≤ 4294967296) = Q := ⟨_, rfl⟩
  rw [hQ]
  have HQ := Lib.hid hQ
  obtain ⟨d, hd⟩ : ∃ d, ((dd - 1) % 4294967296).toNat = d := ⟨_, rfl⟩
  obtain ⟨SL, hSL⟩ : ∃ SL, 1460 + 64 * min (l - 2) 3 = SL := ⟨_, rfl⟩
  have hSLb : 1460 ≤ SL ∧ SL ≤ 1652 := by omega
  unfold Md.dist at hz
  simp only [hd, hSL] at hz
  obtain ⟨⟨sl, y1⟩, hy⟩ : ∃ q, Md.tree (decIo gd o cap L) SL 6 (slotN d : Nat) y = q := ⟨_, rfl⟩
  simp only [hy] at hz
  have HTR := Lib.hid (qtree_any hM hok (n := 6) (by omega) (at_ := SL) (by simp; omega) hN _ hy)
  have HSLT := Lib.hid (fun w => rslots_any l h2 h3 w)
  rw [hSL] at HSLT
  have hli : (l : Int) ≤ 300 := by omega
  have HZ := Lib.hid hz
  clear hQ hy hSL hM hok hz hSLb hd
  go_enter Try.func60, Try.ntmps60
  go_wp2_with fail
  refine (HSLT.out w).mono ?_
  rintro e w1 ⟨rfl, rfl⟩
  go_wp2_with fail
  refine HTR.out.mono ?_
  rintro e w1 ⟨⟨rfl, hM1, hon1⟩, ok1, hlt⟩
  have hlt : sl < 64 := by simpa using hlt
  have hsli : (sl : Int) < 64 := by omega
  have HM1 := Lib.hid (And.intro hM1 hon1)
  have HOK1 := Lib.hid ok1
  clear hM1 hon1 ok1
  by_cases h4 : sl < 4
  · have h4i : decide ((sl : Int) < 4) = true := decide_eq_true (by omega)
    have hz := HZ.out
    rw [if_pos h4] at hz
    have HZ1 := Lib.hid hz
    clear hz
    go_wp2_with fail
    go_ret
    rw [← HQ.out, ← HZ1.out]
    exact ⟨⟨by first | rfl | exact congrArg (fun n : Int => Ending.returned (Value.int .i64 n)) (by go_num), HM1.out.1, HM1.out.2⟩, HOK1.out, by show 1 ≤ sl + 1; omega, by show sl + 1 ≤ 4294967296; omega⟩
  · have h4i : decide ((sl : Int) < 4) = false := decide_eq_false (by omega)
    have hz := HZ.out
    rw [if_neg h4] at hz
    obtain ⟨n, hn⟩ : ∃ n, sl / 2 - 1 = n := ⟨_, rfl⟩
    have hn1 : (sl : Int) / 2 - 1 = (n : Int) := by omega
    have hn30 : n ≤ 30 := by omega
    have hni : (n : Int) ≤ 30 := by omega
    obtain ⟨SM, hSM⟩ : ∃ SM, sl % 2 = SM := ⟨_, rfl⟩
    have hSM1 : SM ≤ 1 := by omega
    have hSMt : (sl : Int).tmod 2 = (SM : Int) := by rw [Int.tmod_eq_emod_of_nonneg (by omega)]; omega
    rw [hn, hSM] at hz
    have HTW := Lib.hid (fun w => two_any n hn30 w)
    obtain ⟨PW, hPW⟩ : ∃ PW, 2 ^ n = PW := ⟨_, rfl⟩
    have hp30 : PW ≤ 1073741824 := by rw [← hPW]; exact Nat.pow_le_pow_right (i := n) (j := 30) (by omega) hn30
    have hp1 : 1 ≤ PW := by rw [← hPW]; exact Nat.one_le_two_pow
    rw [hPW] at HTW
    obtain ⟨BS, hBS⟩ : ∃ BS, (2 + SM) * PW = BS := ⟨_, rfl⟩
    have hBSi : (2 + (SM : Int)) * (PW : Int) = (BS : Int) := by rw [← hBS, Int.natCast_mul]; rfl
    have hBSl : BS ≤ 3 * PW := by rw [← hBS]; exact Nat.mul_le_mul_right _ (by omega)
    have hPWi : (PW : Int) ≤ 1073741824 := by omega
    have hBSl2 : (BS : Int) ≤ 3221225472 := by omega
    have HPW := Lib.hid (And.intro hPW (And.intro hBS hBSl))
    rw [hPW, hBS] at hz
    have HNN := Lib.hid hn
    have HSMS := Lib.hid hSM
    clear hPW hBS hn hSM
    by_cases h14 : sl < 14
    · have h14i : decide ((sl : Int) < 14) = true := decide_eq_true (by omega)
      rw [if_pos h14] at hz
      have h5 : n ≤ 8 := by have := HNN.out; omega
      obtain ⟨⟨t, y2⟩, ht⟩ : ∃ q, Md.rev (decIo gd o cap L) (1716 + 32 * sl) n (d : Nat) y1 = q := ⟨_, rfl⟩
      simp only [ht] at hz
      have HT := Lib.hid ht
      have HZ1 := Lib.hid hz
      have HTU := Lib.hid (qturned_any HM1.out.1 HOK1.out (n := n) h5 (at_ := 1716 + 32 * sl) (by
        have h8 : n ≤ 5 := by have := HNN.out; omega
        have : 2 ^ n ≤ 2 ^ 5 := Nat.pow_le_pow_right (by omega) h8
        omega) hN _ HT.out)
      have HLOW := Lib.hid (fun w => rlow_any sl hlt w)
      obtain ⟨LO, hLO⟩ : ∃ LO, 1716 + 32 * sl = LO := ⟨_, rfl⟩
      rw [hLO] at HTU HLOW
      clear hz ht hLO hlt h4 h14
      go_wp2_with fail
      refine (HTW.out w1).mono ?_
      rintro e w2 ⟨rfl, rfl⟩
      go_wp2_with fail
      refine (HLOW.out w1).mono ?_
      rintro e w2 ⟨rfl, rfl⟩
      go_wp2_with fail
      refine HTU.out.mono ?_
      rintro e w2 ⟨⟨rfl, hM2, hon2⟩, ok2, htl⟩
      have htl : t < 2 ^ n := htl
      rw [HPW.out.1] at htl
      have hti : (t : Int) < 1073741824 := by omega
      have HM2 := Lib.hid (And.intro hM2 (HM1.out.2.same hon2))
      have HOK2 := Lib.hid ok2
      have HTL := Lib.hid htl
      clear hM2 hon2 ok2 htl
      go_wp2_with fail
      go_ret
      rw [← HQ.out, ← HZ1.out]
      exact ⟨⟨by first | rfl | exact congrArg (fun n : Int => Ending.returned (Value.int .i64 n)) (by go_num), HM2.out.1, HM2.out.2⟩, HOK2.out, by show 1 ≤ BS + t + 1; omega, by show BS + t + 1 ≤ 4294967296; have := HTL.out; have := HPW.out.2.2; omega⟩
    · have h14i : decide ((sl : Int) < 14) = false := decide_eq_false (by omega)
      rw [if_neg h14] at hz
      obtain ⟨m, hm⟩ : ∃ m, n - 4 = m := ⟨_, rfl⟩
      have hmi : (n : Int) - 4 = (m : Int) := by have := HNN.out; omega
      rw [hm] at hz
      obtain ⟨⟨u, s2⟩, hu⟩ : ∃ q, (decIo gd o cap L).plain y1.2 (d / 16 % 2 ^ m) m = q := ⟨_, rfl⟩
      simp only [hu] at hz
      have HPL := Lib.hid (qplain_is HM1.out.1 HOK1.out (m := m) (by omega) _ hu)
      obtain ⟨⟨t, y2⟩, ht⟩ : ∃ q, Md.rev (decIo gd o cap L) 2164 4 (d : Nat) (y1.1, s2) = q := ⟨_, rfl⟩
      simp only [ht] at hz
      have hul : u < 2 ^ m := HPL.out.2.2
      rw [Nat.mod_eq_of_lt hul] at hz
      have hP16 : PW = 16 * 2 ^ m := by
        rw [← HPW.out.1, show (16 : Nat) = 2 ^ 4 from rfl, ← Nat.pow_add, show 4 + m = n by have := HNN.out; omega]
      have HUL := Lib.hid (And.intro hul hP16)
      have hui : (u : Int) ≤ 67108864 := by omega
      have HZ1 := Lib.hid hz
      have HT := Lib.hid ht
      have hr0 : w1.cell? ⟨R, 0, none⟩ = some (PF h) := by rw [cell_of_row w1 _ _ _ _ _ HM1.out.1.rbox]; rfl
      have HAL := Lib.hid (fun w => ralign_any w)
      clear hz ht hlt h4 h14 hu hul hP16 hm
      go_wp2_with fail
      refine (HTW.out w1).mono ?_
      rintro e w2 ⟨rfl, rfl⟩
      go_wp2_with fail
      refine HPL.out.1.mono ?_
      rintro e w2 ⟨rfl, hM2, hon2⟩
      have HTU := Lib.hid (qturned_any hM2 HPL.out.2.1 (n := 4) (by omega) (at_ := 2164) (by simp; omega) hN _ HT.out)
      have HO2 := Lib.hid (HM1.out.2.same hon2)
      clear hM2 hon2
      go_wp2_with fail
      refine (HAL.out w2).mono ?_
      rintro e w3 ⟨rfl, rfl⟩
      go_wp2_with fail
      refine HTU.out.mono ?_
      rintro e w3 ⟨⟨rfl, hM3, hon3⟩, ok3, htl⟩
      have hti : (t : Int) < 16 := by simp at htl; omega
      have HM3 := Lib.hid (And.intro hM3 (HO2.out.same hon3))
      have HOK3 := Lib.hid ok3
      clear hM3 hon3 ok3 htl
      go_wp2_with fail
      go_ret
      rw [← HQ.out, ← HZ1.out]
      exact ⟨⟨by first | rfl | exact congrArg (fun n : Int => Ending.returned (Value.int .i64 n)) (by go_num), HM3.out.1, HM3.out.2⟩, HOK3.out, by show 1 ≤ BS + u * 16 + t + 1; omega, by show BS + u * 16 + t + 1 ≤ 4294967296; have := HUL.out.1; have := HUL.out.2; have := HPW.out.2.2; omega⟩
end Go.Proofs.Ytkckjjchfccdjaa
