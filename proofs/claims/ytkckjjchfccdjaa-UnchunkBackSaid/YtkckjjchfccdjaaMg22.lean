/- Several texts in one: FdNew, FdBest. -/
import Derived.Test.YtkckjjchfccdjaaMg21
import Derived.Test.YtkckjjchfccdjaaFdSame4
import Derived.Test.YtkckjjchfccdjaaMg20
/- The finder's New. -/
namespace Go.Proofs.Ytkckjjchfccdjaa
set_option maxRecDepth 100000
open Go.RowKit Go.Maps

/-- A finder that is ready. -/
structure Ready (w : World) (F : Nat) (A : Option Addr) (c : Nat) (d : List UInt8) (dict nice : Int) (mp B : Nat) : Prop where
  at_ : FinderAt w F A c d dict nice mp (.slice (some ⟨B, 0, none⟩) (d.length - 3) (d.length - 3))
  pairs : PairsAt w mp d (d.length - 1)
  fours : w.heap[B]? = some (.cells (prevs d (d.length - 3)).toArray 21 (0, 0))
theorem Ready.below {w w' : World} {F : Nat} {A : Option Addr} {c : Nat} {d : List UInt8} {dict nice : Int} {mp B : Nat} (h : Ready w F A c d dict nice mp B) (hb : Below w.heap.size w w') : Ready w' F A c d dict nice mp B :=
  ⟨h.at_.below hb, h.pairs.below hb, (hb.block _ (Array.getElem?_eq_some_iff.1 h.fours).1).trans h.fours⟩
def FNewDone (d : List UInt8) (dict nice : Int) (w : World) (e : Ending) (w' : World) : Prop := ∃ (Fp : Nat) (A : Option Addr) (c mp B : Nat), e = .returned (.tuple #[PF Fp, .int .i64 0]) ∧ Ready w' Fp A c d dict nice mp B ∧ Below w.heap.size w w'
set_option maxRecDepth 100000 in
theorem new_bad (v : Value) (dict nice : Int) (w : World) (h : dict < 1 ∨ nice < 2 ∨ 273 < nice) :
    Calls Try.prog 17 #[v, .int .i64 dict, .int .i64 nice] w fun e w' => e = .returned (.tuple #[.pointer none, .int .i64 1]) ∧ w = w' := by
  by_cases h1 : dict < 1
  · go_enter Try.func17, Try.ntmps17
    go_wp2_with fail
    go_ret2
    exact ⟨rfl, rfl⟩
  · by_cases h2 : nice < 2
    · go_enter Try.func17, Try.ntmps17
      go_wp2_with fail
      go_ret2
      exact ⟨rfl, rfl⟩
    · have h3 : 273 < nice := by omega
      go_enter Try.func17, Try.ntmps17
      go_wp2_with fail
      go_ret2
      exact ⟨rfl, rfl⟩
set_option maxRecDepth 100000 in
set_option maxHeartbeats 2000000 in
theorem New_any (A : Option Addr) (d : List UInt8) (c : Nat) (dict nice : Int) (w : World) (hB : Bytes w A d) (hc : d.length ≤ c) (hl : d.length ≤ 100000) (h1 : ¬ dict < 1) (h2 : ¬ nice < 2) (h3 : ¬ 273 < nice) :
    Calls Try.prog 17 #[.slice A d.length c, .int .i64 dict, .int .i64 nice] w (FNewDone d dict nice w) := by
  have hci : (d.length : Int) ≤ (c : Int) := by omega
  have hli : (d.length : Int) ≤ 100000 := by omega
  have HCL := Lib.hid (clone_any A d c w hB hc hl)
  have HL := Lib.hid hl
  clear hB hc hl
  go_enter Try.func17, Try.ntmps17
  go_wp2_with fail
  refine HCL.out.mono ?_
  rintro e w1 ⟨v, rfl, hown, hb1⟩
  obtain ⟨A', c', rfl, hc', hcm, hB'⟩ := hown.read
  have HB1 := Lib.hid hb1
  have HBY := Lib.hid hB'
  have HC' := Lib.hid hc'
  obtain ⟨W2, hW2⟩ : ∃ W2, w1.alloc (.cells #[.slice A' d.length c', .int .i64 dict, .int .i64 nice, .map none, .slice none 0 0] 80) = W2 := ⟨_, rfl⟩
  have hrow2 : W2.heap[w1.heap.size]? = some (.cells [.slice A' d.length c', .int .i64 dict, .int .i64 nice, .map none, .slice none 0 0].toArray 80 (0, 0)) := by rw [← hW2]; exact heap_alloc_last _ _
  have hb2 : Below w1.heap.size w1 W2 := by rw [← hW2]; exact (Below.refl _ _).alloc (Nat.le_refl _) _
  have hci' : (d.length : Int) ≤ (c' : Int) := by omega
  have HPP := Lib.hid (pairPlaces_any A' d c' (d.length - 1) W2 (hB'.below hb2) hc' HL.out rfl)
  have HW2 := Lib.hid hW2
  have HROW2 := Lib.hid hrow2
  have HB2 := Lib.hid hb2
  have f20 : W2.cell? ⟨w1.heap.size, 0, none⟩ = some (.slice A' d.length c') := by rw [cell_of_row W2 _ _ _ _ _ hrow2]; rfl
  clear hown hb1 hB' hc' hcm hW2 hrow2 hb2
  go_wp2_with fail
  rw [HW2.out]
  have hlt2 : Hid (w1.heap.size < W2.heap.size) := Lib.hid (Array.getElem?_eq_some_iff.1 HROW2.out).1
  clear f20
  refine HPP.out.mono ?_
  rintro e W3 ⟨rfl, hpr, hb3⟩
  have hrow3 := (hb3.block _ hlt2.out).trans HROW2.out
  have f30 : W3.frozen? ⟨w1.heap.size, 3, none⟩ = false := frozen_of_row _ _ _ _ _ hrow3
  obtain ⟨W4, hW4⟩ : ∃ W4, W3.setCell ⟨w1.heap.size, 3, none⟩ (.map (some W2.heap.size)) = W4 := ⟨_, rfl⟩
  have hrow4 := heap_set hrow3 3 (.map (some W2.heap.size))
  rw [hW4] at hrow4
  have hpr4 : PairsAt W4 W2.heap.size d (d.length - 1) := by rw [← hW4]; exact hpr.set _ _ hlt2.out
  have hb4 : Below w1.heap.size w1 W4 := by rw [← hW4]; exact (HB2.out.trans (hb3.mono (Nat.le_of_lt hlt2.out))).setCell (p := ⟨w1.heap.size, 3, none⟩) (Nat.le_refl _) _
  have f40 : W4.cell? ⟨w1.heap.size, 0, none⟩ = some (.slice A' d.length c') := by rw [cell_of_row W4 _ _ _ _ _ hrow4]; rfl
  have f3d : W3.cell? ⟨w1.heap.size, 3, none⟩ = some (.map none) := by rw [cell_of_row W3 _ _ _ _ _ hrow3]; rfl
  have f3c : W3.cell? ⟨w1.heap.size, 0, none⟩ = some (.slice A' d.length c') := by rw [cell_of_row W3 _ _ _ _ _ hrow3]; rfl
  have HSF := Lib.hid (sameFour_any A' d c' (d.length - 3) W4 (HBY.out.below hb4) HC'.out HL.out rfl)
  have HW4 := Lib.hid hW4
  have HROW4 := Lib.hid hrow4
  have HB4 := Lib.hid hb4
  have HPR4 := Lib.hid hpr4
  have h24 : Hid (W2.heap.size < W4.heap.size) := Lib.hid hpr4.lt
  clear hW4 hrow4 hb4 hpr4 hrow3 hpr hb3
  go_wp2_with fail
  rw [HW4.out]
  refine HSF.out.mono ?_
  rintro e W5 ⟨rfl, hfr, hb5⟩
  have hlt4 : w1.heap.size < W4.heap.size := (Array.getElem?_eq_some_iff.1 HROW4.out).1
  have hrow5 := (hb5.block _ hlt4).trans HROW4.out
  have f50 : W5.frozen? ⟨w1.heap.size, 4, none⟩ = false := frozen_of_row _ _ _ _ _ hrow5
  have f5d : W5.cell? ⟨w1.heap.size, 4, none⟩ = some (.slice none 0 0) := by rw [cell_of_row W5 _ _ _ _ _ hrow5]; rfl
  obtain ⟨W6, hW6⟩ : ∃ W6, W5.setCell ⟨w1.heap.size, 4, none⟩ (.slice (some ⟨W4.heap.size + 1, 0, none⟩) (d.length - 3 : Nat) (d.length - 3 : Nat)) = W6 := ⟨_, rfl⟩
  have hrow6 := heap_set hrow5 4 (.slice (some ⟨W4.heap.size + 1, 0, none⟩) (d.length - 3 : Nat) (d.length - 3 : Nat))
  rw [hW6] at hrow6
  have hb6 : Below w1.heap.size w1 W6 := by rw [← hW6]; exact (HB4.out.trans (hb5.mono (Nat.le_of_lt hlt4))).setCell (p := ⟨w1.heap.size, 4, none⟩) (Nat.le_refl _) _
  have hR : Ready W6 w1.heap.size A' c' d dict nice W2.heap.size (W4.heap.size + 1) := by
    refine ⟨⟨hrow6, HBY.out.below hb6, HC'.out, HL.out⟩, ?_, ?_⟩
    · rw [← hW6]; exact (HPR4.out.below hb5).set _ _ hlt2.out
    · rw [← hW6]; exact (heap_setCell_other _ _ _ _ (by show W4.heap.size + 1 ≠ w1.heap.size; omega)).trans hfr
  have HR := Lib.hid hR
  have HW6 := Lib.hid hW6
  have HB6 : Hid (Below w.heap.size w W6) := Lib.hid (HB1.out.trans (hb6.mono HB1.out.size))
  clear hW6 hrow6 hb6 hR hrow5 hfr hb5
  go_wp2_with fail
  rw [HW6.out]
  go_ret2
  exact ⟨_, _, _, _, _, rfl, HR.out, HB6.out⟩
end Go.Proofs.Ytkckjjchfccdjaa

/- The finder's Best. -/
namespace Go.Proofs.Ytkckjjchfccdjaa
set_option maxRecDepth 100000
open Go.RowKit

def bestV (d : List UInt8) (dict nice place most : Int) : Nat × Nat := if 0 ≤ place ∧ place < (d.length : Int) then bestOf d dict nice place.toNat most else (0, 0)
def BestDone (r : Nat × Nat) (w : World) (e : Ending) (w' : World) : Prop := e = .returned (.tuple #[.int .i64 (r.1 : Nat), .int .i64 (r.2 : Nat)]) ∧ Below w.heap.size w w'
theorem long4 {F : Nat} {A : Option Addr} {c : Nat} {d : List UInt8} {dict nice : Int} {mp B : Nat} {place lm : Nat} {w : World} (hR : Ready w F A c d dict nice mp B) (h4 : 4 ≤ lm) (hl : place + lm ≤ d.length) {b1 b2 : Nat} {W : World} (hb : Below w.heap.size w W) (hx1 : BoxAt b1 W (PF F)) (hx2 : BoxAt b2 W (.int .i64 (place : Nat))) :
    Calls Try.prog 84 #[PF F, .int .i64 (place : Nat), .int .i64 (lm : Nat), .func (.func 95) #[] #[PF b1, PF b2]] W (LongDone d place lm dict (chain d (four d place) place) W) := by
  have hW := hR.below hb
  exact longest_any F A c d dict nice mp _ place lm _ _ _ W hW.at_ hl (by omega) (fun x hx => (mem_chain.1 hx).1) (chain_falls _ _ _) (enters_of Try.func95 (by kernel_rfl) rfl)
    (four_seq Fence.wide 3 trivial rfl (by decide) F A c d dict nice mp B (d.length - 3) b1 b2 place W hW.at_ hW.fours hx1 hx2 (by omega) (by omega))
theorem long2 {F : Nat} {A : Option Addr} {c : Nat} {d : List UInt8} {dict nice : Int} {mp B : Nat} {place lm : Nat} {w : World} (hR : Ready w F A c d dict nice mp B) (h2 : 2 ≤ lm) (hl : place + lm ≤ d.length) {e : Ending} {W W0 : World} (hb : Below w.heap.size w W0)
    (hP : PairDone (places d (d.getD place 0) (d.getD (place + 1) 0) (d.length - 1)) place W0 e W) :
    ∃ (b1 b2 : Nat) (L2 : List Nat), e = .returned (.func (.func 97) #[] #[PF b1, PF b2]) ∧ Below w.heap.size w W ∧ (∀ z, z ∈ L2 ↔ z < place ∧ d.getD z 0 = d.getD place 0 ∧ d.getD (z + 1) 0 = d.getD (place + 1) 0) ∧
      Calls Try.prog 84 #[PF F, .int .i64 (place : Nat), .int .i64 (lm : Nat), .func (.func 97) #[] #[PF b1, PF b2]] W (LongDone d place lm dict L2 W) := by
  obtain ⟨b1, b2, A2, c2, h, rfl, hx1, hx2, hrd, hc2, hh, hlo, hhi, hb2⟩ := hP
  obtain ⟨hm, hf⟩ := pair_list (place := place) rfl rfl (by omega) hh hlo hhi
  have hbW : Below w.heap.size w W := hb.trans (hb2.mono hb.size)
  have hW := hR.below hbW
  have hlen := places_len d (d.getD place 0) (d.getD (place + 1) 0) (d.length - 1)
  have hsm := hR.at_.small
  refine ⟨b1, b2, _, rfl, hbW, hm, ?_⟩
  exact longest_any F A c d dict nice mp _ place lm _ _ _ W hW.at_ hl (by omega) (fun x hx => ((hm x).1 hx).1) hf (enters_of Try.func97 (by kernel_rfl) rfl)
    (pair_seq Fence.wide 3 trivial rfl (by decide) A2 c2 _ b1 b2 h W hrd hc2 (by omega) (fun x hx => by have := (mem_places.1 hx).1; omega) hx1 hx2 hh)
set_option maxRecDepth 100000 in
set_option maxHeartbeats 2000000 in
theorem Best_any (F : Nat) (A : Option Addr) (c : Nat) (d : List UInt8) (dict nice : Int) (mp B : Nat) (place most : Int) (w : World) (hR : Ready w F A c d dict nice mp B) :
    Calls Try.prog 66 #[PF F, .int .i64 place, .int .i64 most] w (BestDone (bestV d dict nice place most) w) := by
  have HH := Lib.hid (has_any F A c d dict nice mp _ place w hR.at_)
  have hli : (d.length : Int) ≤ 100000 := by have := hR.at_.small; omega
  unfold bestV
  by_cases h1 : 0 ≤ place ∧ place < (d.length : Int)
  case neg =>
    have hh : hasB d place = false := by
      unfold hasB
      cases h : (decide (0 ≤ place) && decide (place < (d.length : Int))) with
      | false => rfl
      | true => simp at h; exact absurd h h1
    rw [hh] at HH
    rw [if_neg h1]
    clear h1 hh hR
    go_enter Try.func66, Try.ntmps66
    go_wp2_with fail
    refine HH.out.mono ?_
    rintro e w1 ⟨rfl, rfl⟩
    go_wp2_with fail
    go_ret2
    exact ⟨rfl, Below.refl _ _⟩
  have hh : hasB d place = true := by unfold hasB; simp [h1.1, h1.2]
  rw [hh] at HH
  rw [if_pos h1]
  obtain ⟨p, rfl⟩ : ∃ p : Nat, place = (p : Int) := ⟨place.toNat, by omega⟩
  simp only [Int.toNat_natCast]
  have hpi : (p : Int) ≤ 100000 := by omega
  have hp2 : (p : Int) < (d.length : Int) := h1.2
  obtain ⟨X, hX⟩ : ∃ X : Int, (d.length : Int) - (p : Int) = X := ⟨_, rfl⟩
  obtain ⟨M, hM⟩ : ∃ M : Int, min (min nice most) X = M := ⟨_, rfl⟩
  obtain ⟨R, hRd⟩ : ∃ R, bestOf d dict nice p most = R := ⟨_, rfl⟩
  rw [hRd]
  have HBO : Hid (R = if (bestTo (fAt d p M.toNat) (depth p dict)).1 < 2 then (0, 0) else bestTo (fAt d p M.toNat) (depth p dict)) := Lib.hid (by
    rw [← hRd]
    unfold bestOf
    have e : lim d p (min nice most) = M.toNat := by unfold lim; rw [hX, hM]
    rw [e]; rfl)
  obtain ⟨f0, _, f2, _, _⟩ := hR.at_.cells
  have hM0 : M ≤ (d.length : Int) - (p : Int) := by omega
  have HR := Lib.hid hR
  have hXw : IntKind.i64.wrap X = X := IntWalk.i64_in _ (by omega)
  have hcase : (M = nice ∧ ¬ most < nice ∧ ¬ X < nice) ∨ (M = most ∧ most < nice ∧ ¬ X < most) ∨ (M = X ∧ most < nice ∧ X < most) ∨ (M = X ∧ ¬ most < nice ∧ X < nice) := by omega
  have HMX : Hid (M ≤ (d.length : Int) - (p : Int)) := Lib.hid hM0
  clear h1 hh hR hM hM0 hRd
  by_cases hM2 : M < 2
  · have hz : Hid ((bestTo (fAt d p M.toNat) (depth p dict)).1 < 2) := Lib.hid (by
      rcases (bestTo_is (fAt d p M.toNat) (depth p dict)).at_ with ⟨e, _⟩ | ⟨_, _, e, _⟩
      · omega
      · have h1 := eqLen_le d p (p - (bestTo (fAt d p M.toNat) (depth p dict)).2) M.toNat
        have e2 : eqLen d p (p - (bestTo (fAt d p M.toNat) (depth p dict)).2) M.toNat = (bestTo (fAt d p M.toNat) (depth p dict)).1 := e
        omega)
    have HRZ : Hid (R = (0, 0)) := Lib.hid (by rw [HBO.out, if_pos hz.out])
    clear HBO hz
    have b2 : decide (M < 2) = true := decide_eq_true hM2
    rcases hcase with ⟨rfl, a1, a2⟩ | ⟨rfl, a1, a2⟩ | ⟨rfl, a1, a2⟩ | ⟨rfl, a1, a2⟩
    all_goals
      go_enter Try.func66, Try.ntmps66
      go_wp2_with fail
      refine HH.out.mono ?_
      rintro e w1 ⟨rfl, rfl⟩
      go_wp2_with fail
      go_quiet (fail)
      go_wp2_with fail
      go_ret2
      rw [HRZ.out]
      exact ⟨rfl, below_drewN (Below.refl _ _) _⟩
  · obtain ⟨lm, rfl⟩ : ∃ lm : Nat, M = (lm : Int) := ⟨M.toNat, by omega⟩
    simp only [Int.toNat_natCast] at HBO
    have b2 : decide ((lm : Int) < 2) = false := decide_eq_false hM2
    have hlm : Hid (2 ≤ lm ∧ p + lm ≤ d.length) := Lib.hid (by have := HMX.out; omega)
    have hp3 : Hid (p + 1 < d.length) := Lib.hid (by have := hlm.out; omega)
    by_cases hM4 : 4 ≤ lm
    · have b4 : decide ((4 : Int) ≤ (lm : Int)) = true := decide_eq_true (by omega)
      have b4' : (4 : Int) ≤ (lm : Int) := by omega
      have H4 := Lib.hid hM4
      clear hM2 hM4
      rcases hcase with ⟨rfl, a1, a2⟩ | ⟨rfl, a1, a2⟩ | ⟨rfl, a1, a2⟩ | ⟨rfl, a1, a2⟩
      all_goals
        go_enter Try.func66, Try.ntmps66
        go_wp2_with fail
        refine HH.out.mono ?_
        rintro e w1 ⟨rfl, rfl⟩
        go_wp2_with fail
        go_quiet (fail)
        go_wp2_with fail
        refine (beforeFour_any F p _).mono ?_
        rintro e w1 ⟨b1, b2, rfl, hx1, hx2, _, _, hb1⟩
        have hbw := (below_drewN (Below.refl w.heap.size w) _).trans hb1
        have HB1 := Lib.hid hbw
        have HL4 := Lib.hid (long4 HR.out H4.out hlm.out.2 hbw hx1 hx2)
        clear hx1 hx2 hb1 hbw
        go_wp2_with fail
        refine HL4.out.mono ?_
        rintro e w2 ⟨n, k, rfl, hbest, hb2⟩
        have HBE := Lib.hid hbest
        have HB2 := Lib.hid (HB1.out.trans (hb2.mono HB1.out.size))
        clear hbest hb2
        by_cases hn4 : 4 ≤ n
        · have HRES : Hid ((if (bestTo (fAt d p lm) (depth p dict)).1 < 2 then (0, 0) else bestTo (fAt d p lm) (depth p dict)) = (n, k)) := Lib.hid (by
            have e := best_four HBE.out hn4
            rw [← e, if_neg (by show ¬ n < 2; omega)])
          have b5 : decide ((4 : Int) ≤ (n : Int)) = true := decide_eq_true (by omega)
          have b5' : (4 : Int) ≤ (n : Int) := by omega
          clear hn4
          go_wp2_with fail
          go_ret2
          rw [HBO.out, HRES.out]
          exact ⟨rfl, HB2.out⟩
        · have HNF := Lib.hid (no_four HBE.out (by omega))
          have b5 : decide ((4 : Int) ≤ (n : Int)) = false := decide_eq_false (by omega)
          have b5' : ¬ (4 : Int) ≤ (n : Int) := by omega
          clear hn4
          go_wp2_with fail
          refine (beforePair_any F A c d dict _ mp _ p _ (HR.out.below HB2.out).at_ (HR.out.below HB2.out).pairs hp3.out).mono ?_
          rintro e w3 hpd
          obtain ⟨c1, c2, L2, rfl, hb3, hmem, hlong⟩ := long2 (lm := 3) HR.out (by decide) (by have := hlm.out; have := H4.out; omega) HB2.out hpd
          have HB3 := Lib.hid hb3
          have HME := Lib.hid hmem
          have HLO := Lib.hid hlong
          clear hpd hb3 hmem hlong
          go_wp2_with fail
          refine HLO.out.mono ?_
          rintro e w4 ⟨n2, k2, rfl, hbest2, hb4⟩
          have HB4 : Hid (Below w.heap.size w w4) := Lib.hid (HB3.out.trans (hb4.mono HB3.out.size))
          have HRES := Lib.hid (best_pair HME.out (by decide) (by have := H4.out; omega) HNF.out hbest2)
          clear hbest2 hb4
          go_wp2_with fail
          go_ret2
          rw [HBO.out, ← HRES.out]
          exact ⟨rfl, HB4.out⟩
    · have b4 : decide ((4 : Int) ≤ (lm : Int)) = false := decide_eq_false (by omega)
      have b4' : ¬ (4 : Int) ≤ (lm : Int) := by omega
      clear hM2 hM4
      rcases hcase with ⟨rfl, a1, a2⟩ | ⟨rfl, a1, a2⟩ | ⟨rfl, a1, a2⟩ | ⟨rfl, a1, a2⟩
      all_goals
        go_enter Try.func66, Try.ntmps66
        go_wp2_with fail
        refine HH.out.mono ?_
        rintro e w1 ⟨rfl, rfl⟩
        go_wp2_with fail
        go_quiet (fail)
        go_wp2_with fail
        have HBQ : ∀ m, Hid (Below w.heap.size w (w.drewN m)) := fun m => Lib.hid (below_drewN (Below.refl _ _) m)
        refine (beforePair_any F A c d dict _ mp _ p _ (HR.out.below (HBQ _).out).at_ (HR.out.below (HBQ _).out).pairs hp3.out).mono ?_
        rintro e w3 hpd
        obtain ⟨c1, c2, L2, rfl, hb3, hmem, hlong⟩ := long2 (lm := lm) HR.out hlm.out.1 hlm.out.2 (HBQ _).out hpd
        have HB3 := Lib.hid hb3
        have HME := Lib.hid hmem
        have HLO := Lib.hid hlong
        clear hpd hb3 hmem hlong
        go_wp2_with fail
        refine HLO.out.mono ?_
        rintro e w4 ⟨n2, k2, rfl, hbest2, hb4⟩
        have HB4 : Hid (Below w.heap.size w w4) := Lib.hid (HB3.out.trans (hb4.mono HB3.out.size))
        have HRES := Lib.hid (best_pair HME.out hlm.out.1 (Nat.le_refl _) (fun j _ _ => eqLen_le _ _ _ _) hbest2)
        clear hbest2 hb4
        go_wp2_with fail
        go_ret2
        rw [HBO.out, ← HRES.out]
        exact ⟨rfl, HB4.out⟩
end Go.Proofs.Ytkckjjchfccdjaa
