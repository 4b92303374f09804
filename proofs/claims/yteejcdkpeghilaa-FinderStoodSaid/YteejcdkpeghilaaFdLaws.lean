/- FinderBest: for every input the law returns true. -/
import Derived.Test.YteejcdkpeghilaaFdKnows
namespace Go.Proofs.Yteejcdkpeghilaa
open Go.RowKit

theorem best_off {d : List UInt8} {dict nice place most : Int} (h : ¬ (0 ≤ place ∧ place < (d.length : Int))) : bestV d dict nice place most = (0, 0) := if_neg h
theorem best_on {d : List UInt8} {dict nice most : Int} {p : Nat} (h : (p : Int) < (d.length : Int)) : bestV d dict nice (p : Int) most = bestOf d dict nice p most := by
  unfold bestV
  rw [if_pos ⟨by omega, h⟩, Int.toNat_natCast]
set_option maxRecDepth 100000 in
set_option maxHeartbeats 4000000 in
theorem best_law (A : Option Addr) (d : List UInt8) (c : Nat) (dict nice place most dist : Int) (w : World) (hB : Bytes w A d) (hc : d.length ≤ c) (hm : c ≤ 9223372036854775807) :
    Calls Try.prog 3 #[.slice A d.length c, .int .i64 dict, .int .i64 nice, .int .i64 place, .int .i64 most, .int .i64 dist] w (Holds w) := by
  have hmi : (d.length : Int) ≤ 9223372036854775807 := by omega
  by_cases h4 : 400 < d.length
  · have h4i : (400 : Int) < (d.length : Int) := by omega
    clear h4 hB
    go_enter Try.func3, Try.ntmps3
    go_wp2_with fail
    refine (knows_any _).mono ?_
    rintro e w1 ⟨rfl, hb⟩
    go_wp2_with fail
    go_ret
    exact ⟨rfl, hb⟩
  have h4i : ¬ (400 : Int) < (d.length : Int) := by omega
  have hli : (d.length : Int) ≤ 400 := by omega
  have hl : d.length ≤ 400 := by omega
  clear h4
  by_cases hbad : dict < 1 ∨ nice < 2 ∨ 273 < nice
  · have HN := Lib.hid (new_bad (.slice A d.length c) dict nice w hbad)
    have hs : (dict < 1) ∨ (¬ dict < 1 ∧ nice < 2) ∨ (¬ dict < 1 ∧ ¬ nice < 2 ∧ 273 < nice) := by omega
    clear hbad hB
    rcases hs with h1 | ⟨h1, h2⟩ | ⟨h1, h2, h3⟩
    all_goals
      go_enter Try.func3, Try.ntmps3
      go_wp2_with fail
      refine HN.out.mono ?_
      rintro e w1 ⟨rfl, rfl⟩
      go_wp2_with fail
      refine (knows_any _).mono ?_
      rintro e w1 ⟨rfl, hb⟩
      go_wp2_with fail
      go_ret
      exact ⟨rfl, hb⟩
  have h1 : ¬ dict < 1 := by omega
  have h2 : ¬ nice < 2 := by omega
  have h3 : ¬ 273 < nice := by omega
  have HN := Lib.hid (New_any A d c dict nice w hB hc (by omega) h1 h2 h3)
  have HBY := Lib.hid hB
  have HC := Lib.hid hc
  have HL := Lib.hid hl
  clear hbad hB
  by_cases hp : 0 ≤ place ∧ place < (d.length : Int)
  · obtain ⟨p, rfl⟩ : ∃ p : Nat, place = (p : Int) := ⟨place.toNat, by omega⟩
    have hp2 : (p : Int) < (d.length : Int) := hp.2
    have hp0 : (0 : Int) ≤ (p : Int) := hp.1
    have HV := Lib.hid (best_on (dict := dict) (nice := nice) (most := most) hp2)
    obtain ⟨⟨bn, bk⟩, hR⟩ : ∃ r : Nat × Nat, bestOf d dict nice p most = r := ⟨_, rfl⟩
    rw [hR] at HV
    have HR := Lib.hid hR
    obtain ⟨bl, hBL⟩ : ∃ x, backOf d dict (p : Int) dist most = x := ⟨_, rfl⟩
    have HBL := Lib.hid hBL
    clear hR hp hBL
    go_enter Try.func3, Try.ntmps3
    go_wp2_with fail
    refine HN.out.mono ?_
    rintro e w1 ⟨F, AF, cF, mp, B, rfl, hRd, hb1⟩
    have HRD := Lib.hid hRd
    have HB1 := Lib.hid hb1
    clear hRd hb1
    go_wp2_with fail
    refine (Best_any F AF cF d dict nice mp B (p : Int) most w1 HRD.out).mono ?_
    rintro e w2 ⟨rfl, hb2⟩
    rw [HV.out]
    have HRD2 := Lib.hid (HRD.out.below hb2)
    have HB2 := Lib.hid (HB1.out.trans (hb2.mono HB1.out.size))
    clear hb2
    go_wp2_with fail
    refine (rbest_any A d c dict nice p most w2 (HBY.out.below HB2.out) HC.out (by have := HL.out; omega) (by omega)).mono ?_
    rintro e w3 ⟨rfl, m, rfl⟩
    rw [HR.out]
    go_wp2_with fail
    refine (Like_any F AF cF d dict nice mp _ (p : Int) dist most _ (HRD2.out.at_.drewN m)).mono ?_
    rintro e w3 ⟨rfl, m2, rfl⟩
    rw [HBL.out]
    go_wp2_with fail
    refine (rback_any A d c dict (p : Int) dist most _ ((HBY.out.below HB2.out).below (below_drewN (Below.refl _ _) _)) HC.out (by have := HL.out; omega)).mono ?_
    rintro e w3 ⟨rfl, m3, rfl⟩
    rw [HBL.out]
    go_wp2_with fail
    refine (knows_any _).mono ?_
    rintro e w4 ⟨rfl, hb4⟩
    have HB4 := Lib.hid hb4
    clear hb4
    go_wp2_with fail
    go_ret
    exact ⟨rfl, (below_drewN HB2.out _).trans (HB4.out.mono HB2.out.size)⟩
  · have HV := Lib.hid (best_off (dict := dict) (nice := nice) (most := most) hp)
    have hBL : backOf d dict place dist most = 0 := by
      unfold backOf
      rw [if_neg (fun h => hp ⟨h.1, h.2.1⟩)]
    have HBL := Lib.hid hBL
    have hs : (¬ (0 : Int) ≤ place) ∨ ((0 : Int) ≤ place ∧ ¬ place < (d.length : Int)) := by omega
    clear hp hBL
    rcases hs with g1 | ⟨g1, g2⟩
    all_goals
      go_enter Try.func3, Try.ntmps3
      go_wp2_with fail
      refine HN.out.mono ?_
      rintro e w1 ⟨F, AF, cF, mp, B, rfl, hRd, hb1⟩
      have HRD := Lib.hid hRd
      have HB1 := Lib.hid hb1
      clear hRd hb1
      go_wp2_with fail
      refine (Best_any F AF cF d dict nice mp B place most w1 HRD.out).mono ?_
      rintro e w2 ⟨rfl, hb2⟩
      rw [HV.out]
      have HRD2 := Lib.hid (HRD.out.below hb2)
      have HB2 := Lib.hid (HB1.out.trans (hb2.mono HB1.out.size))
      clear hb2
      go_wp2_with fail
      refine (Like_any F AF cF d dict nice mp _ place dist most _ HRD2.out.at_).mono ?_
      rintro e w3 ⟨rfl, m2, rfl⟩
      rw [HBL.out]
      go_wp2_with fail
      refine (rback_any A d c dict place dist most _ ((HBY.out.below HB2.out).below (below_drewN (Below.refl _ _) _)) HC.out (by have := HL.out; omega)).mono ?_
      rintro e w3 ⟨rfl, m3, rfl⟩
      rw [HBL.out]
      go_wp2_with fail
      refine (knows_any _).mono ?_
      rintro e w4 ⟨rfl, hb4⟩
      have HB4 := Lib.hid hb4
      clear hb4
      go_wp2_with fail
      go_ret
      exact ⟨rfl, (below_drewN HB2.out _).trans (HB4.out.mono HB2.out.size)⟩
theorem best_law2 (A : Option Addr) (d : List UInt8) (c : Nat) (dict nice place most dist : Int) (w : World) (hB : Bytes w A d) (hc : d.length ≤ c) (hm : c ≤ 9223372036854775807)
    (_ : -9223372036854775808 ≤ dict) (_ : dict ≤ 9223372036854775807) (_ : -9223372036854775808 ≤ nice) (_ : nice ≤ 9223372036854775807) (_ : -9223372036854775808 ≤ place) (_ : place ≤ 9223372036854775807)
    (_ : -9223372036854775808 ≤ most) (_ : most ≤ 9223372036854775807) (_ : -9223372036854775808 ≤ dist) (_ : dist ≤ 9223372036854775807) :
    Calls Try.prog 3 #[.slice A d.length c, .int .i64 dict, .int .i64 nice, .int .i64 place, .int .i64 most, .int .i64 dist] w (Holds w) := best_law A d c dict nice place most dist w hB hc hm
end Go.Proofs.Yteejcdkpeghilaa
