/- Several texts in one: PaRep, PaChoose, PaMem. -/
import Derived.Test.YtkckjjchfccdjaaMg22
import Derived.Test.YtkckjjchfccdjaaPaAfter
import Derived.Deep.CutBlock
import Derived.Deep.DeepCutAuto
import Derived.Maps.AppendAt
/- The parser's bestRepeat. -/
namespace Go.Proofs.Ytkckjjchfccdjaa
set_option maxRecDepth 100000
open Go.RowKit

/-- The first of the greatest of some numbers. -/
def firstTo (g : Nat → Nat) : Nat → Nat × Nat
  | 0 => (0, 0)
  | n + 1 => if (firstTo g n).1 < g n then (g n, n) else firstTo g n
def bestRep (D : List UInt8) (dict place left a b c d : Int) : Nat × Nat := firstTo (fun i => backOf D dict place (r4 a b c d i) left) 4
def RepDone (r : Nat × Nat) (w : World) (e : Ending) (w' : World) : Prop := e = .returned (.tuple #[.int .i64 (r.1 : Nat), .int .i64 (r.2 : Nat)]) ∧ Below w.heap.size w w'
set_option maxRecDepth 100000 in
set_option maxHeartbeats 2000000 in
theorem bestRepeat_any (F : Nat) (A : Option Addr) (cp : Nat) (D : List UInt8) (dict nice : Int) (mp : Nat) (v4 : Value) (place left a b c d : Int) (w : World) (hF : FinderAt w F A cp D dict nice mp v4) :
    Calls Try.prog 65 #[PF F, .int .i64 place, .int .i64 left, R4V a b c d] w (RepDone (bestRep D dict place left a b c d) w) := by
  have HL := Lib.hid (fun (m : Nat) (W : World) (hb : Below w.heap.size w W) (x : Int) => Like_any F A cp D dict nice mp v4 place x left (W.drewN m) ((hF.below hb).drewN m))
  unfold bestRep
  obtain ⟨g, hg⟩ : ∃ g : Nat → Nat, (fun i => backOf D dict place (r4 a b c d i) left) = g := ⟨_, rfl⟩
  rw [hg]
  have HG := Lib.hid (fun i => congrFun hg i)
  clear hg hF
  go_enter Try.func65, Try.ntmps65
  go_wp2_with fail
  obtain ⟨W, hW⟩ : ∃ W, w.alloc (.cells #[.int .i64 a, .int .i64 b, .int .i64 c, .int .i64 d] 103) = W := ⟨_, rfl⟩
  rw [hW]
  have HB : Hid (Below w.heap.size w W) := Lib.hid (by rw [← hW]; exact (Below.refl _ _).alloc (Nat.le_refl _) _)
  clear hW
  go_loopw [10, 11, 16] (fun x y i wr => ∃ (n m : Nat), n ≤ 4 ∧ i = .int .i64 (n : Nat) ∧ x = .int .i64 ((firstTo g n).1 : Nat) ∧ y = .int .i64 ((firstTo g n).2 : Nat) ∧ wr = W.drewN m) (fun x y i _ => 4 - (intOf i).toNat)
  case atStart => exact ⟨0, 0, by omega, rfl, rfl, rfl, rfl⟩
  case round =>
    obtain ⟨n, m, hn, rfl, rfl, rfl, rfl⟩ := hrel
    rcases (by omega : n = 0 ∨ n = 1 ∨ n = 2 ∨ n = 3 ∨ n = 4) with rfl | rfl | rfl | rfl | rfl
    · have hix := ix4_0 a b c d
      have hE : backOf D dict place a left = g 0 := HG.out 0
      obtain ⟨gn, hgn⟩ : ∃ x, g 0 = x := ⟨_, rfl⟩
      rw [hgn] at hE
      have HE := Lib.hid hE
      have HS : Hid (firstTo g 1 = if (firstTo g 0).1 < gn then (gn, 0) else firstTo g 0) := Lib.hid (by rw [← hgn]; rfl)
      obtain ⟨u, hu⟩ : ∃ u, (firstTo g 0).1 = u := ⟨_, rfl⟩
      obtain ⟨v, hv⟩ : ∃ v, (firstTo g 0).2 = v := ⟨_, rfl⟩
      have HU : Hid (firstTo g 0 = (u, v)) := Lib.hid (by rw [← hu, ← hv])
      rw [hu, hv]
      clear hE hgn hu hv
      by_cases hlt : u < gn
      · have HS2 : Hid (firstTo g 1 = (gn, 0)) := Lib.hid (by rw [HS.out, HU.out, if_pos hlt])
        have hlt2 : (u : Int) < (gn : Int) := by omega
        clear hlt
        go_wp2_with fail
        refine (HL.out m W HB.out a).mono ?_
        rintro e w2 ⟨rfl, m2, rfl⟩
        rw [HE.out]
        go_wp2_with fail
        exact ⟨⟨1, _, by omega, rfl, by rw [HS2.out], by rw [HS2.out]; rfl, rfl⟩, by simp [intOf]⟩
      · have HS2 : Hid (firstTo g 1 = (u, v)) := Lib.hid (by rw [HS.out, HU.out, if_neg hlt])
        have hlt2 : ¬ (u : Int) < (gn : Int) := by omega
        clear hlt
        go_wp2_with fail
        refine (HL.out m W HB.out a).mono ?_
        rintro e w2 ⟨rfl, m2, rfl⟩
        rw [HE.out]
        go_wp2_with fail
        exact ⟨⟨1, _, by omega, rfl, by rw [HS2.out], by rw [HS2.out], rfl⟩, by simp [intOf]⟩
    · have hix := ix4_1 a b c d
      have hE : backOf D dict place b left = g 1 := HG.out 1
      obtain ⟨gn, hgn⟩ : ∃ x, g 1 = x := ⟨_, rfl⟩
      rw [hgn] at hE
      have HE := Lib.hid hE
      have HS : Hid (firstTo g 2 = if (firstTo g 1).1 < gn then (gn, 1) else firstTo g 1) := Lib.hid (by rw [← hgn]; rfl)
      obtain ⟨u, hu⟩ : ∃ u, (firstTo g 1).1 = u := ⟨_, rfl⟩
      obtain ⟨v, hv⟩ : ∃ v, (firstTo g 1).2 = v := ⟨_, rfl⟩
      have HU : Hid (firstTo g 1 = (u, v)) := Lib.hid (by rw [← hu, ← hv])
      rw [hu, hv]
      clear hE hgn hu hv
      by_cases hlt : u < gn
      · have HS2 : Hid (firstTo g 2 = (gn, 1)) := Lib.hid (by rw [HS.out, HU.out, if_pos hlt])
        have hlt2 : (u : Int) < (gn : Int) := by omega
        clear hlt
        go_wp2_with fail
        refine (HL.out m W HB.out b).mono ?_
        rintro e w2 ⟨rfl, m2, rfl⟩
        rw [HE.out]
        go_wp2_with fail
        exact ⟨⟨2, _, by omega, rfl, by rw [HS2.out], by rw [HS2.out]; rfl, rfl⟩, by simp [intOf]⟩
      · have HS2 : Hid (firstTo g 2 = (u, v)) := Lib.hid (by rw [HS.out, HU.out, if_neg hlt])
        have hlt2 : ¬ (u : Int) < (gn : Int) := by omega
        clear hlt
        go_wp2_with fail
        refine (HL.out m W HB.out b).mono ?_
        rintro e w2 ⟨rfl, m2, rfl⟩
        rw [HE.out]
        go_wp2_with fail
        exact ⟨⟨2, _, by omega, rfl, by rw [HS2.out], by rw [HS2.out], rfl⟩, by simp [intOf]⟩
    · have hix := ix4_2 a b c d
      have hE : backOf D dict place c left = g 2 := HG.out 2
      obtain ⟨gn, hgn⟩ : ∃ x, g 2 = x := ⟨_, rfl⟩
      rw [hgn] at hE
      have HE := Lib.hid hE
      have HS : Hid (firstTo g 3 = if (firstTo g 2).1 < gn then (gn, 2) else firstTo g 2) := Lib.hid (by rw [← hgn]; rfl)
      obtain ⟨u, hu⟩ : ∃ u, (firstTo g 2).1 = u := ⟨_, rfl⟩
      obtain ⟨v, hv⟩ : ∃ v, (firstTo g 2).2 = v := ⟨_, rfl⟩
      have HU : Hid (firstTo g 2 = (u, v)) := Lib.hid (by rw [← hu, ← hv])
      rw [hu, hv]
      clear hE hgn hu hv
      by_cases hlt : u < gn
      · have HS2 : Hid (firstTo g 3 = (gn, 2)) := Lib.hid (by rw [HS.out, HU.out, if_pos hlt])
        have hlt2 : (u : Int) < (gn : Int) := by omega
        clear hlt
        go_wp2_with fail
        refine (HL.out m W HB.out c).mono ?_
        rintro e w2 ⟨rfl, m2, rfl⟩
        rw [HE.out]
        go_wp2_with fail
        exact ⟨⟨3, _, by omega, rfl, by rw [HS2.out], by rw [HS2.out]; rfl, rfl⟩, by simp [intOf]⟩
      · have HS2 : Hid (firstTo g 3 = (u, v)) := Lib.hid (by rw [HS.out, HU.out, if_neg hlt])
        have hlt2 : ¬ (u : Int) < (gn : Int) := by omega
        clear hlt
        go_wp2_with fail
        refine (HL.out m W HB.out c).mono ?_
        rintro e w2 ⟨rfl, m2, rfl⟩
        rw [HE.out]
        go_wp2_with fail
        exact ⟨⟨3, _, by omega, rfl, by rw [HS2.out], by rw [HS2.out], rfl⟩, by simp [intOf]⟩
    · have hix := ix4_3 a b c d
      have hE : backOf D dict place d left = g 3 := HG.out 3
      obtain ⟨gn, hgn⟩ : ∃ x, g 3 = x := ⟨_, rfl⟩
      rw [hgn] at hE
      have HE := Lib.hid hE
      have HS : Hid (firstTo g 4 = if (firstTo g 3).1 < gn then (gn, 3) else firstTo g 3) := Lib.hid (by rw [← hgn]; rfl)
      obtain ⟨u, hu⟩ : ∃ u, (firstTo g 3).1 = u := ⟨_, rfl⟩
      obtain ⟨v, hv⟩ : ∃ v, (firstTo g 3).2 = v := ⟨_, rfl⟩
      have HU : Hid (firstTo g 3 = (u, v)) := Lib.hid (by rw [← hu, ← hv])
      rw [hu, hv]
      clear hE hgn hu hv
      by_cases hlt : u < gn
      · have HS2 : Hid (firstTo g 4 = (gn, 3)) := Lib.hid (by rw [HS.out, HU.out, if_pos hlt])
        have hlt2 : (u : Int) < (gn : Int) := by omega
        clear hlt
        go_wp2_with fail
        refine (HL.out m W HB.out d).mono ?_
        rintro e w2 ⟨rfl, m2, rfl⟩
        rw [HE.out]
        go_wp2_with fail
        exact ⟨⟨4, _, by omega, rfl, by rw [HS2.out], by rw [HS2.out]; rfl, rfl⟩, by simp [intOf]⟩
      · have HS2 : Hid (firstTo g 4 = (u, v)) := Lib.hid (by rw [HS.out, HU.out, if_neg hlt])
        have hlt2 : ¬ (u : Int) < (gn : Int) := by omega
        clear hlt
        go_wp2_with fail
        refine (HL.out m W HB.out d).mono ?_
        rintro e w2 ⟨rfl, m2, rfl⟩
        rw [HE.out]
        go_wp2_with fail
        exact ⟨⟨4, _, by omega, rfl, by rw [HS2.out], by rw [HS2.out], rfl⟩, by simp [intOf]⟩
    · go_wp2_with fail
      go_ret2
      exact ⟨rfl, below_drewN HB.out _⟩
end Go.Proofs.Ytkckjjchfccdjaa

/- The parser's choice of a symbol. -/
namespace Go.Proofs.Ytkckjjchfccdjaa
set_option maxRecDepth 100000
open Go.RowKit

/-- What P10.1 says of the next symbol. -/
def chooseS (D : List UInt8) (dict nice : Int) (p : Nat) (left a b c d : Int) : Sy :=
  let rep := bestRep D dict (p : Int) left a b c d
  let m := bestV D dict nice (p : Int) left
  if 2 ≤ rep.1 ∧ m.1 ≤ rep.1 + 1 then ⟨2, 0, rep.1, 0, rep.2⟩
  else if 3 ≤ m.1 ∨ (0 < m.1 ∧ m.2 ≤ 128) then ⟨1, 0, m.1, m.2, 0⟩
  else if 1 ≤ backOf D dict (p : Int) a left then ⟨2, 0, 1, 0, 0⟩
  else ⟨0, D.getD p 0, 0, 0, 0⟩
def ChooseDone (s : Sy) (w : World) (e : Ending) (w' : World) : Prop := e = .returned s.val ∧ Below w.heap.size w w'
theorem backOf_le (D : List UInt8) (dict place dist most : Int) : backOf D dict place dist most ≤ 273 := by
  unfold backOf
  split
  · have := eqLen_le D place.toNat (place.toNat - dist.toNat) (lim D place.toNat (min 273 most))
    have h : lim D place.toNat (min 273 most) ≤ 273 := by unfold lim; omega
    omega
  · omega
theorem firstTo_le {g : Nat → Nat} {M : Nat} (h : ∀ i, g i ≤ M) : ∀ n, (firstTo g n).1 ≤ M ∧ (firstTo g n).2 ≤ n
  | 0 => ⟨Nat.zero_le _, Nat.zero_le _⟩
  | n + 1 => by
    unfold firstTo
    have ih := firstTo_le h n
    split
    · exact ⟨h n, Nat.le_succ _⟩
    · exact ⟨ih.1, by omega⟩
theorem bestRep_le (D : List UInt8) (dict place left a b c d : Int) : (bestRep D dict place left a b c d).1 ≤ 273 ∧ (bestRep D dict place left a b c d).2 ≤ 4 := firstTo_le (fun _ => backOf_le _ _ _ _ _) 4
theorem set5 {B g : Nat} {w W : World} {v0 v1 v2 v3 v4 : Value} (h : Below B w W) (hg : B ≤ g) : Below B w (((((W.setCell ⟨g, 0, none⟩ v0).setCell ⟨g, 1, none⟩ v1).setCell ⟨g, 2, none⟩ v2).setCell ⟨g, 3, none⟩ v3).setCell ⟨g, 4, none⟩ v4) :=
  ((((h.setCell (p := ⟨g, 0, none⟩) hg _).setCell (p := ⟨g, 1, none⟩) hg _).setCell (p := ⟨g, 2, none⟩) hg _).setCell (p := ⟨g, 3, none⟩) hg _).setCell (p := ⟨g, 4, none⟩) hg _
set_option maxRecDepth 100000 in
set_option maxHeartbeats 1000000 in
theorem pachoose_any (b1 b2 b3 b4 : Nat) (F : Nat) (A DA : Option Addr) (cF cd : Nat) (D : List UInt8) (dict nice : Int) (mp B : Nat) (p tt : Nat) (a b c d : Int) (w : World)
    (hR : Ready w F A cF D dict nice mp B) (hD : Bytes w DA D) (hcd : D.length ≤ cd) (h1 : BoxAt b1 w (.int .i64 (tt : Nat))) (h2 : BoxAt b2 w (PF F)) (h3 : w.heap[b3]? = some (.cells [.int .i64 a, .int .i64 b, .int .i64 c, .int .i64 d].toArray 103 (0, 0))) (h4 : BoxAt b4 w (.slice DA D.length cd))
    (hp : p < tt) (hto : tt ≤ D.length) :
    Calls Try.prog 64 #[.int .i64 (p : Nat), PF b1, PF b2, PF b3, PF b4] w (ChooseDone (chooseS D dict nice p ((tt : Int) - (p : Int)) a b c d) w) := by
  have hsm := hR.at_.small
  obtain ⟨X, hX⟩ : ∃ X : Int, (tt : Int) - (p : Int) = X := ⟨_, rfl⟩
  rw [hX]
  have HC := Lib.hid (fun (W : World) (hb : Below w.heap.size w W) => (show W.cell? ⟨b1, 0, none⟩ = some (.int .i64 (tt : Nat)) ∧ W.cell? ⟨b2, 0, none⟩ = some (PF F) ∧ (W.cell? ⟨b3, 0, none⟩ = some (.int .i64 a) ∧ W.cell? ⟨b3, 1, none⟩ = some (.int .i64 b) ∧ W.cell? ⟨b3, 2, none⟩ = some (.int .i64 c) ∧ W.cell? ⟨b3, 3, none⟩ = some (.int .i64 d)) ∧ W.cell? ⟨b4, 0, none⟩ = some (.slice DA D.length cd) from by
    have l3 : b3 < w.heap.size := (Array.getElem?_eq_some_iff.1 h3).1
    have e3 := (hb.block _ l3).trans h3
    refine ⟨(h1.keep (hb.block _ h1.lt)).cell, (h2.keep (hb.block _ h2.lt)).cell, ⟨?_, ?_, ?_, ?_⟩, (h4.keep (hb.block _ h4.lt)).cell⟩ <;> (rw [cell_of_row W _ _ _ _ _ e3]; rfl)))
  have HRB := Lib.hid (fun (W : World) (hb : Below w.heap.size w W) => (hR.below hb))
  have HDB := Lib.hid (fun (W : World) (hb : Below w.heap.size w W) => (hD.below hb).addr (by omega))
  have hcc : (D.length : Int) ≤ (cd : Int) := by omega
  have hXw : IntKind.i64.wrap X = X := IntWalk.i64_in _ (by omega)
  have hpi : (p : Int) < (D.length : Int) := by omega
  have hpl : (p : Int) ≤ 100000 := by omega
  have HS : Hid (∀ s, s = chooseS D dict nice p X a b c d → s = let rep := bestRep D dict (p : Int) X a b c d
      let m := bestV D dict nice (p : Int) X
      if 2 ≤ rep.1 ∧ m.1 ≤ rep.1 + 1 then ⟨2, 0, rep.1, 0, rep.2⟩
      else if 3 ≤ m.1 ∨ (0 < m.1 ∧ m.2 ≤ 128) then ⟨1, 0, m.1, m.2, 0⟩
      else if 1 ≤ backOf D dict (p : Int) a X then ⟨2, 0, 1, 0, 0⟩
      else ⟨0, D.getD p 0, 0, 0, 0⟩) := Lib.hid (fun s h => h)
  obtain ⟨S, hS⟩ : ∃ S, chooseS D dict nice p X a b c d = S := ⟨_, rfl⟩
  rw [hS]
  have HS2 := Lib.hid (HS.out S hS.symm)
  clear HS hS
  have hrl := bestRep_le D dict (p : Int) X a b c d
  obtain ⟨⟨rn, rw_⟩, hr⟩ : ∃ r, bestRep D dict (p : Int) X a b c d = r := ⟨_, rfl⟩
  obtain ⟨⟨mn, mk⟩, hm⟩ : ∃ r, bestV D dict nice (p : Int) X = r := ⟨_, rfl⟩
  obtain ⟨bk, hbk⟩ : ∃ r, backOf D dict (p : Int) a X = r := ⟨_, rfl⟩
  rw [hr, hm, hbk] at HS2
  rw [hr] at hrl
  simp only at HS2 hrl
  have hrni : (rn : Int) ≤ 273 := by omega
  have HR := Lib.hid hr
  have HM := Lib.hid hm
  have HBK := Lib.hid hbk
  clear hR hD hcd h1 h2 h3 h4 hr hm hbk hsm
  go_enter Try.func64, Try.ntmps64
  go_upto_region 1 with fail
  obtain ⟨W1, hW1⟩ : ∃ W1, w.alloc (.cells #[.int .i64 0, .int .u8 0, .int .i64 0, .int .i64 0, .int .i64 0] 99) = W1 := ⟨_, rfl⟩
  rw [hW1]
  have hb1 : Below w.heap.size w W1 := by rw [← hW1]; exact (Below.refl _ _).alloc (Nat.le_refl _) _
  have hz : W1.heap[w.heap.size]? = some (.cells [.int .i64 0, .int .u8 0, .int .i64 0, .int .i64 0, .int .i64 0].toArray 99 (0, 0)) := by rw [← hW1]; exact heap_alloc_last _ _
  have hlt : w.heap.size < W1.heap.size := (Array.getElem?_eq_some_iff.1 hz).1
  have HB1 := Lib.hid hb1
  have HLT := Lib.hid hlt
  have HZ := Lib.hid (fun (W : World) (hb : Below W1.heap.size W1 W) => (show (W.cell? ⟨w.heap.size, 0, none⟩ = some (.int .i64 0) ∧ W.cell? ⟨w.heap.size, 1, none⟩ = some (.int .u8 0) ∧ W.cell? ⟨w.heap.size, 2, none⟩ = some (.int .i64 0) ∧ W.cell? ⟨w.heap.size, 3, none⟩ = some (.int .i64 0) ∧ W.cell? ⟨w.heap.size, 4, none⟩ = some (.int .i64 0)) ∧
      (∀ i, W.frozen? ⟨w.heap.size, i, none⟩ = false) from by
    have e := (hb.block _ hlt).trans hz
    refine ⟨⟨?_, ?_, ?_, ?_, ?_⟩, fun i => frozen_of_row _ _ _ _ _ e⟩ <;> (rw [cell_of_row W _ _ _ _ _ e]; rfl)))
  obtain ⟨cA, cB, ⟨cC0, cC1, cC2, cC3⟩, cD⟩ := HC.out W1 hb1
  clear hW1 hb1 hz hlt
  go_wp2_with fail
  refine (bestRepeat_any F A cF D dict nice mp _ (p : Int) X a b c d W1 (HRB.out W1 HB1.out).at_).mono ?_
  rintro e w2 ⟨rfl, hb2⟩
  rw [HR.out]
  have HB2 := Lib.hid (HB1.out.trans (hb2.mono HB1.out.size))
  have HB12 := Lib.hid hb2
  obtain ⟨cA, cB, ⟨cC0, cC1, cC2, cC3⟩, cD⟩ := HC.out w2 HB2.out
  clear hb2
  go_wp2_with fail
  refine (Best_any F A cF D dict nice mp B (p : Int) X w2 (HRB.out w2 HB2.out)).mono ?_
  rintro e w3 ⟨rfl, hb3⟩
  rw [HM.out]
  have HB3 := Lib.hid (HB2.out.trans (hb3.mono HB2.out.size))
  have HB13 := Lib.hid (HB12.out.trans (hb3.mono HB12.out.size))
  obtain ⟨cA, cB, ⟨cC0, cC1, cC2, cC3⟩, cD⟩ := HC.out w3 HB3.out
  clear hb3
  go_upto_region 5 with fail
  obtain ⟨⟨z0, z1, z2, z3, z4⟩, zf⟩ := HZ.out w3 HB13.out
  have f0 := zf 0
  have f1 := zf 1
  have f2 := zf 2
  have f3 := zf 3
  have f4 := zf 4
  clear zf
  by_cases hc1 : 2 ≤ rn ∧ mn ≤ rn + 1
  · have HS3 : Hid (S = ⟨2, 0, rn, 0, rw_⟩) := Lib.hid (by rw [HS2.out, if_pos hc1])
    have g1 : decide ((2 : Int) ≤ (rn : Int)) = true := decide_eq_true (by omega)
    have g1' : (2 : Int) ≤ (rn : Int) := by omega
    have g2 : (mn : Int) ≤ (rn : Int) + 1 := by omega
    clear hc1
    go_wp2_with fail
    refine bodyPost_ret (v := S.val) (by rw [HS3.out]; simp [results, Try.results64, go_sem, Sy.val, z0, z1, z2, z3, z4]) rfl ⟨rfl, set5 HB3.out (Nat.le_refl _)⟩
  · by_cases hc2 : 3 ≤ mn ∨ (0 < mn ∧ mk ≤ 128)
    · have hs : (2 ≤ rn ∧ ¬ mn ≤ rn + 1 ∧ 3 ≤ mn) ∨ (¬ 2 ≤ rn ∧ 3 ≤ mn) ∨ (¬ 2 ≤ rn ∧ ¬ 3 ≤ mn ∧ 0 < mn ∧ mk ≤ 128) := by omega
      rcases hs with ⟨g1, g2, g3⟩ | ⟨g1, g3⟩ | ⟨g1, g3, g4, g5⟩
      · have i1 : (2 : Int) ≤ (rn : Int) := by omega
        have i2 : ¬ (mn : Int) ≤ (rn : Int) + 1 := by omega
        have i3 : (3 : Int) ≤ (mn : Int) := by omega
        have HS3 : Hid (S = ⟨1, 0, mn, mk, 0⟩) := Lib.hid (by rw [HS2.out, if_neg hc1, if_pos hc2])
        clear hc1 hc2
        go_wp2_with fail
        refine bodyPost_ret (v := S.val) (by rw [HS3.out]; simp [results, Try.results64, go_sem, Sy.val, z0, z1, z2, z3, z4]) rfl ⟨rfl, set5 HB3.out (Nat.le_refl _)⟩
      · have i1 : ¬ (2 : Int) ≤ (rn : Int) := by omega
        have i3 : (3 : Int) ≤ (mn : Int) := by omega
        have HS3 : Hid (S = ⟨1, 0, mn, mk, 0⟩) := Lib.hid (by rw [HS2.out, if_neg hc1, if_pos hc2])
        clear hc1 hc2
        go_wp2_with fail
        refine bodyPost_ret (v := S.val) (by rw [HS3.out]; simp [results, Try.results64, go_sem, Sy.val, z0, z1, z2, z3, z4]) rfl ⟨rfl, set5 HB3.out (Nat.le_refl _)⟩
      · have i1 : ¬ (2 : Int) ≤ (rn : Int) := by omega
        have i3 : ¬ (3 : Int) ≤ (mn : Int) := by omega
        have i4 : (0 : Int) < (mn : Int) := by omega
        have i5 : (mk : Int) ≤ 128 := by omega
        have HS3 : Hid (S = ⟨1, 0, mn, mk, 0⟩) := Lib.hid (by rw [HS2.out, if_neg hc1, if_pos hc2])
        clear hc1 hc2
        go_wp2_with fail
        refine bodyPost_ret (v := S.val) (by rw [HS3.out]; simp [results, Try.results64, go_sem, Sy.val, z0, z1, z2, z3, z4]) rfl ⟨rfl, set5 HB3.out (Nat.le_refl _)⟩
    · have hs : (¬ 2 ≤ rn ∧ ¬ 3 ≤ mn ∧ ¬ 0 < mn) ∨ (¬ 2 ≤ rn ∧ ¬ 3 ≤ mn ∧ 0 < mn ∧ ¬ mk ≤ 128) := by omega
      rcases hs with ⟨g1, g3, g4⟩ | ⟨g1, g3, g4, g5⟩
      · have i1 : ¬ (2 : Int) ≤ (rn : Int) := by omega
        have i3 : ¬ (3 : Int) ≤ (mn : Int) := by omega
        have i4 : ¬ (0 : Int) < (mn : Int) := by omega
        go_wp2_with fail
        refine (Like_any F A cF D dict nice mp _ (p : Int) a X w3 (HRB.out w3 HB3.out).at_).mono ?_
        rintro e w4 ⟨rfl, m4, rfl⟩
        rw [HBK.out]
        by_cases hk : 1 ≤ bk
        · have HS3 : Hid (S = ⟨2, 0, 1, 0, 0⟩) := Lib.hid (by rw [HS2.out, if_neg hc1, if_neg hc2, if_pos hk])
          have g5 : (1 : Int) ≤ (bk : Int) := by omega
          clear hk hc1 hc2
          go_wp2_with fail
          refine bodyPost_ret (v := S.val) (by rw [HS3.out]; simp [results, Try.results64, go_sem, Sy.val, z0, z1, z2, z3, z4]) rfl ⟨rfl, set5 (below_drewN HB3.out _) (Nat.le_refl _)⟩
        · have HS3 : Hid (S = ⟨0, D.getD p 0, 0, 0, 0⟩) := Lib.hid (by rw [HS2.out, if_neg hc1, if_neg hc2, if_neg hk])
          have g5 : ¬ (1 : Int) ≤ (bk : Int) := by omega
          obtain ⟨g, off, rfl, _, hat⟩ := HDB.out w3 HB3.out
          have cp := hat p (by omega)
          have e1 := getD_of (d := D) (i := p) (by omega)
          rw [← e1] at cp
          generalize D.getD p 0 = u at *
          clear hk hc1 hc2 hat e1
          go_wp2_with fail
          refine bodyPost_ret (v := S.val) (by rw [HS3.out]; simp [results, Try.results64, go_sem, Sy.val, z0, z1, z2, z3, z4]) rfl ⟨rfl, set5 (below_drewN HB3.out _) (Nat.le_refl _)⟩
      · have i1 : ¬ (2 : Int) ≤ (rn : Int) := by omega
        have i3 : ¬ (3 : Int) ≤ (mn : Int) := by omega
        have i4 : (0 : Int) < (mn : Int) := by omega
        have i5 : ¬ (mk : Int) ≤ 128 := by omega
        go_wp2_with fail
        refine (Like_any F A cF D dict nice mp _ (p : Int) a X w3 (HRB.out w3 HB3.out).at_).mono ?_
        rintro e w4 ⟨rfl, m4, rfl⟩
        rw [HBK.out]
        by_cases hk : 1 ≤ bk
        · have HS3 : Hid (S = ⟨2, 0, 1, 0, 0⟩) := Lib.hid (by rw [HS2.out, if_neg hc1, if_neg hc2, if_pos hk])
          have g5 : (1 : Int) ≤ (bk : Int) := by omega
          clear hk hc1 hc2
          go_wp2_with fail
          refine bodyPost_ret (v := S.val) (by rw [HS3.out]; simp [results, Try.results64, go_sem, Sy.val, z0, z1, z2, z3, z4]) rfl ⟨rfl, set5 (below_drewN HB3.out _) (Nat.le_refl _)⟩
        · have HS3 : Hid (S = ⟨0, D.getD p 0, 0, 0, 0⟩) := Lib.hid (by rw [HS2.out, if_neg hc1, if_neg hc2, if_neg hk])
          have g5 : ¬ (1 : Int) ≤ (bk : Int) := by omega
          obtain ⟨g, off, rfl, _, hat⟩ := HDB.out w3 HB3.out
          have cp := hat p (by omega)
          have e1 := getD_of (d := D) (i := p) (by omega)
          rw [← e1] at cp
          generalize D.getD p 0 = u at *
          clear hk hc1 hc2 hat e1
          go_wp2_with fail
          refine bodyPost_ret (v := S.val) (by rw [HS3.out]; simp [results, Try.results64, go_sem, Sy.val, z0, z1, z2, z3, z4]) rfl ⟨rfl, set5 (below_drewN HB3.out _) (Nat.le_refl _)⟩
end Go.Proofs.Ytkckjjchfccdjaa

/- Symbols in memory; what the parser yields. -/
namespace Go.Proofs.Ytkckjjchfccdjaa
set_option maxRecDepth 100000
open Go.RowKit

theorem after_any (s : Sy) (hk : s.k ≤ 2) (hr : s.r ≤ 3) (r : R4) (w : World) : Calls Try.prog 68 #[r.val, s.val] w (AfterDone (afterS s r).1 (afterS s r).2.1 (afterS s r).2.2.1 (afterS s r).2.2.2 w) := by
  obtain ⟨k, b, l, d, q⟩ := s
  obtain ⟨r0, r1, r2, r3⟩ := r
  simp only at hk hr
  rcases (by omega : k = 0 ∨ k = 1 ∨ k = 2) with rfl | rfl | rfl
  · exact after_lit r0 r1 r2 r3 b _ _ _ w
  · exact after_match r0 r1 r2 r3 b _ _ _ w
  · rcases (by omega : q = 0 ∨ q = 1 ∨ q = 2 ∨ q = 3) with rfl | rfl | rfl | rfl
    · exact after_rep0 r0 r1 r2 r3 b _ _ w
    · exact after_rep1 r0 r1 r2 r3 b _ _ w
    · exact after_rep2 r0 r1 r2 r3 b _ _ w
    · exact after_rep3 r0 r1 r2 r3 b _ _ w
theorem firstTo_lt {g : Nat → Nat} : ∀ n, 0 < n → (firstTo g n).2 < n
  | n + 1, _ => by
    unfold firstTo
    split
    · exact Nat.lt_succ_self _
    · rcases Nat.eq_zero_or_pos n with rfl | h
      · exact Nat.lt_succ_self _
      · have := firstTo_lt (g := g) n h; omega
theorem chooseS_k (D : List UInt8) (dict nice : Int) (p : Nat) (left a b c d : Int) : (chooseS D dict nice p left a b c d).k ≤ 2 ∧ (chooseS D dict nice p left a b c d).r ≤ 3 := by
  have h : (bestRep D dict (p : Int) left a b c d).2 < 4 := firstTo_lt 4 (by decide)
  unfold chooseS
  simp only
  split
  · exact ⟨Nat.le_refl 2, by show (bestRep D dict (p : Int) left a b c d).2 ≤ 3; omega⟩
  · split
    · exact ⟨(by decide : 1 ≤ 2), Nat.zero_le 3⟩
    · split
      · exact ⟨Nat.le_refl 2, Nat.zero_le 3⟩
      · exact ⟨Nat.zero_le 2, Nat.zero_le 3⟩
theorem bestV_le (D : List UInt8) (dict nice place most : Int) : (bestV D dict nice place most).1 ≤ D.length := by
  unfold bestV
  split
  · rename_i h
    unfold bestOf
    split
    · exact Nat.zero_le _
    · rcases (bestTo_is (fun k => eqLen D place.toNat (place.toNat - k) (lim D place.toNat (min nice most))) (min (place.toNat : Int) dict).toNat).at_ with ⟨e, _⟩ | ⟨_, _, e, _⟩
      · rw [e]; exact Nat.zero_le _
      · rw [← e]
        have h1 := eqLen_le D place.toNat (place.toNat - (bestTo (fun k => eqLen D place.toNat (place.toNat - k) (lim D place.toNat (min nice most))) (min (place.toNat : Int) dict).toNat).2) (lim D place.toNat (min nice most))
        have h2 : lim D place.toNat (min nice most) ≤ D.length := by unfold lim; omega
        exact Nat.le_trans h1 h2
  · exact Nat.zero_le _
theorem chooseS_l (D : List UInt8) (dict nice : Int) (p : Nat) (left a b c d : Int) : (chooseS D dict nice p left a b c d).l ≤ 273 + D.length := by
  have h1 := (bestRep_le D dict (p : Int) left a b c d).1
  have h2 := bestV_le D dict nice (p : Int) left
  unfold chooseS
  simp only
  split
  · show (bestRep D dict (p : Int) left a b c d).1 ≤ _; omega
  · split
    · show (bestV D dict nice (p : Int) left).1 ≤ _; omega
    · split
      · show 1 ≤ _; omega
      · exact Nat.zero_le _
/-- The next symbol, behind the repeats. -/
def nextS (D : List UInt8) (dict nice : Int) (tt p : Nat) (r : R4) : Sy := chooseS D dict nice p ((tt : Int) - (p : Int)) r.1 r.2.1 r.2.2.1 r.2.2.2
def symsOf (D : List UInt8) (dict nice : Int) (tt : Nat) : Nat → Nat → R4 → List Sy × R4
  | 0, _, r => ([], r)
  | f + 1, p, r => if p < tt then
      (nextS D dict nice tt p r :: (symsOf D dict nice tt f (p + max (nextS D dict nice tt p r).l 1) (afterS (nextS D dict nice tt p r) r)).1, (symsOf D dict nice tt f (p + max (nextS D dict nice tt p r).l 1) (afterS (nextS D dict nice tt p r) r)).2)
    else ([], r)
theorem symsOf_more (D : List UInt8) (dict nice : Int) (tt : Nat) : ∀ (f g p : Nat) (r : R4), tt - p ≤ f → tt - p ≤ g → symsOf D dict nice tt f p r = symsOf D dict nice tt g p r
  | 0, 0, p, r, _, _ => rfl
  | 0, g + 1, p, r, h, _ => by
    unfold symsOf
    rw [if_neg (by omega)]
  | f + 1, 0, p, r, _, h => by
    unfold symsOf
    rw [if_neg (by omega)]
  | f + 1, g + 1, p, r, h1, h2 => by
    unfold symsOf
    by_cases hp : p < tt
    · rw [if_pos hp, if_pos hp, symsOf_more D dict nice tt f g _ _ (by omega) (by omega)]
    · rw [if_neg hp, if_neg hp]
theorem symsOf_step {D : List UInt8} {dict nice : Int} {tt p : Nat} {r : R4} (hp : p < tt) : symsOf D dict nice tt (tt - p) p r =
    (nextS D dict nice tt p r :: (symsOf D dict nice tt (tt - (p + max (nextS D dict nice tt p r).l 1)) (p + max (nextS D dict nice tt p r).l 1) (afterS (nextS D dict nice tt p r) r)).1, (symsOf D dict nice tt (tt - (p + max (nextS D dict nice tt p r).l 1)) (p + max (nextS D dict nice tt p r).l 1) (afterS (nextS D dict nice tt p r) r)).2) := by
  obtain ⟨f, hf⟩ : ∃ f, tt - p = f + 1 := ⟨tt - p - 1, by omega⟩
  rw [hf]
  conv => lhs; unfold symsOf
  rw [if_pos hp, symsOf_more D dict nice tt f (tt - (p + max (nextS D dict nice tt p r).l 1)) _ _ (by omega) (by omega)]
theorem symsOf_end {D : List UInt8} {dict nice : Int} {tt p : Nat} {r : R4} (hp : ¬ p < tt) : symsOf D dict nice tt (tt - p) p r = ([], r) := by
  rw [show tt - p = 0 by omega]; rfl
end Go.Proofs.Ytkckjjchfccdjaa
