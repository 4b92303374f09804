/- FinderStood: for every input the law returns true. -/
import Derived.Test.YteejcdkpeghilaaFdStoodM
import Derived.Test.YteejcdkpeghilaaFdLaws
namespace Go.Proofs.Yteejcdkpeghilaa
open Go.RowKit

set_option maxRecDepth 100000 in
set_option maxHeartbeats 4000000 in
theorem stood_law (A : Option Addr) (d : List UInt8) (c : Nat) (dict nice : Int) (w : World) (hB : Bytes w A d) (hc : d.length ≤ c) (hm : c ≤ 9223372036854775807)
    (_ : -9223372036854775808 ≤ dict) (_ : dict ≤ 9223372036854775807) (_ : -9223372036854775808 ≤ nice) (_ : nice ≤ 9223372036854775807) :
    Calls Try.prog 4 #[.slice A d.length c, .int .i64 dict, .int .i64 nice] w (Holds w) := by
  have hmi : (d.length : Int) ≤ 9223372036854775807 := by omega
  by_cases h4 : 150 < d.length
  · have h4i : (150 : Int) < (d.length : Int) := by omega
    clear h4 hB
    go_enter Try.func4, Try.ntmps4
    go_wp2_with fail
    refine (knows_any _).mono ?_
    rintro e w1 ⟨rfl, hb⟩
    go_wp2_with fail
    go_ret
    exact ⟨rfl, hb⟩
  have h4i : ¬ (150 : Int) < (d.length : Int) := by omega
  have hli : (d.length : Int) ≤ 150 := by omega
  have hl : d.length ≤ 150 := by omega
  clear h4
  by_cases hbad : dict < 1 ∨ nice < 2 ∨ 273 < nice
  · have HN := Lib.hid (new_bad (.slice A d.length c) dict nice w hbad)
    clear hbad hB
    go_enter Try.func4, Try.ntmps4
    go_wp2_with fail
    refine HN.out.mono ?_
    rintro e w1 ⟨rfl, rfl⟩
    go_wp2_with fail
    refine (knows_any _).mono ?_
    rintro e w1 ⟨rfl, hb⟩
    go_wp2_with fail
    go_ret
    exact ⟨rfl, hb⟩
  have h1 : ¬ dict < 1 := by omega
  have h2 : ¬ nice < 2 := by omega
  have h3 : ¬ 273 < nice := by omega
  have HN := Lib.hid (New_any A d c dict nice w hB hc (by omega) h1 h2 h3)
  have HBY := Lib.hid hB
  have HC := Lib.hid hc
  have hci : (d.length : Int) ≤ (c : Int) := by omega
  have HL := Lib.hid hl
  have HST := Lib.hid (fun p => stood_of (d := d) (dict := dict) (nice := nice) (p := p) (by omega))
  clear hbad hB
  go_enter Try.func4, Try.ntmps4
  go_wp2_with fail
  refine HN.out.mono ?_
  rintro e w1 ⟨F, AF, cF, mp, B, rfl, hRd, hb1⟩
  have HRD := Lib.hid hRd
  have HB1 := Lib.hid hb1
  clear hRd hb1 HN
  go_wp2_with fail
  go_loopw [9] (fun i wr => ∃ p : Nat, p ≤ d.length ∧ i = .int .i64 (p : Nat) ∧ Hid (Ready wr F AF cF d dict nice mp B) ∧ Hid (Below w.heap.size w wr)) (fun i _ => d.length - (intOf i).toNat)
  case atStart => exact ⟨0, by omega, rfl, HRD, HB1⟩
  case round =>
    obtain ⟨p, hp, rfl, HR, HB⟩ := hrel
    clear HRD HB1
    by_cases hpl : p < d.length
    · have hpi : (p : Int) < (d.length : Int) := by omega
      have HV := Lib.hid (best_on (dict := dict) (nice := nice) (most := (d.length : Int)) hpi)
      rcases HST.out p with h0 | ⟨n, k, hr, hS⟩
      · rw [h0] at HV
        clear h0
        go_wp2_with fail
        refine (Best_any F AF cF d dict nice mp B (p : Int) (d.length : Int) _ HR.out).mono ?_
        rintro e w2 ⟨rfl, hb2⟩
        rw [HV.out]
        have HR2 := Lib.hid (HR.out.below hb2)
        have HB2 := Lib.hid (HB.out.trans (hb2.mono HB.out.size))
        clear hb2
        go_wp2_with fail
        exact ⟨⟨p + 1, by omega, by go_num, HR2, HB2⟩, by simp [intOf]; omega⟩
      · rw [hr] at HV
        have HS := Lib.hid hS
        have n2 : (2 : Int) ≤ (n : Int) := by have := hS.two; omega
        have n3 : (n : Int) ≤ nice := hS.nice_
        have k1 : (1 : Int) ≤ (k : Int) := by have := hS.one; omega
        have k2 : (k : Int) ≤ (p : Int) := by have := hS.back; omega
        have k3 : (k : Int) ≤ dict := hS.dict_
        obtain ⟨s, hs⟩ : ∃ s, p + n = s := ⟨_, rfl⟩
        have hsi : (p : Int) + (n : Int) = (s : Int) := by omega
        have hsl : (s : Int) ≤ (d.length : Int) := by have := hS.fits; omega
        have HSS := Lib.hid hs
        have e0 : ((n : Int) == 0) = false := by rw [beq_eq_false_iff_ne]; omega
        have e1 : decide ((n : Int) < 2) = false := decide_eq_false (by omega)
        have e2 : decide (nice < (n : Int)) = false := decide_eq_false (by omega)
        have e3 : decide ((k : Int) < 1) = false := decide_eq_false (by omega)
        have e4 : decide (p < k) = false := decide_eq_false (by omega)
        have e5 : decide (dict < (k : Int)) = false := decide_eq_false (by omega)
        have e6 : decide (d.length < s) = false := decide_eq_false (by omega)
        clear hr hS hs
        go_wp2_with fail
        refine (Best_any F AF cF d dict nice mp B (p : Int) (d.length : Int) _ HR.out).mono ?_
        rintro e w2 ⟨rfl, hb2⟩
        rw [HV.out]
        have HR2 := Lib.hid (HR.out.below hb2)
        have HB2 := Lib.hid (HB.out.trans (hb2.mono HB.out.size))
        clear hb2
        go_wp2_with fail
        go_loopw [12] (fun i wr => ∃ (q m : Nat), q ≤ n ∧ i = .int .i64 (q : Nat) ∧ wr = w2.drewN m) (fun i _ => n - (intOf i).toNat)
        case atStart => exact ⟨0, 0, by omega, rfl, rfl⟩
        case round =>
          obtain ⟨q, m, hq, rfl, rfl⟩ := hrel
          by_cases hqn : q < n
          · have hqi : (q : Int) < (n : Int) := by omega
            obtain ⟨b, off, rfl, _, hat⟩ := (HBY.out.below HB2.out).addr (by omega)
            obtain ⟨x, hx⟩ : ∃ x, p + q = x := ⟨_, rfl⟩
            obtain ⟨y, hy⟩ : ∃ y, x - k = y := ⟨_, rfl⟩
            have hxi : (p : Int) + (q : Int) = (x : Int) := by omega
            have hyi : (x : Int) - (k : Int) = (y : Int) := by omega
            have hxl : (x : Int) < (d.length : Int) := by omega
            have hyl : (y : Int) < (d.length : Int) := by omega
            have cx := hat x (by omega)
            have cy := hat y (by omega)
            have hsame := HS.out.same q hqn
            rw [hx, hy, getD_of (by omega), getD_of (by omega)] at hsame
            rw [← hsame] at cy
            generalize d[x]'(by omega) = u at *
            have hxw : IntKind.i64.wrap (x : Int) = (x : Int) := IntWalk.i64_in _ (by omega)
            clear hat hsame hx hy
            go_wp2_with fail
            go_quiet (fail)
            go_wp2_with fail
            exact ⟨⟨q + 1, _, by omega, by go_num, rfl⟩, by simp [intOf]; omega⟩
          · obtain rfl : q = n := by omega
            have hj1k : 1 ≤ k := by omega
            by_cases g1 : (q : Int) < nice
            · by_cases g2 : (s : Int) < (d.length : Int)
              · obtain ⟨b, off, rfl, _, hat⟩ := (HBY.out.below HB2.out).addr (by omega)
                obtain ⟨y, hy⟩ : ∃ y, s - k = y := ⟨_, rfl⟩
                have hyi : (s : Int) - (k : Int) = (y : Int) := by omega
                have hyl : (y : Int) < (d.length : Int) := by omega
                have cx := hat s (by omega)
                have cy := hat y (by omega)
                have hstop := HS.out.stop g1 (by have := HSS.out; omega)
                rw [HSS.out, hy, getD_of (by omega), getD_of (by omega)] at hstop
                generalize d[s]'(by omega) = u at *
                generalize d[y]'(by omega) = v at *
                have huv : ((u.toNat : Int) == (v.toNat : Int)) = false := by
                  rw [beq_eq_false_iff_ne]; intro h; exact hstop (UInt8.toNat_inj.1 (by omega))
                clear hat hstop hy
                go_wp2_with fail
                go_quiet (fail)
                go_wp2_with fail
                go_loopw [13] (fun i wr => ∃ (j m : Nat), 1 ≤ j ∧ j ≤ k ∧ i = .int .i64 (j : Nat) ∧ wr = w2.drewN m) (fun i _ => k - (intOf i).toNat)
                case atStart => exact ⟨1, _, by omega, by omega, rfl, World.drewN_drewN ..⟩
                case round =>
                  obtain ⟨j, m2, hj1, hj, rfl, rfl⟩ := hrel
                  by_cases hjk : j < k
                  · have hji : (j : Int) < (k : Int) := by omega
                    have hless := HS.out.less j hj1 hjk
                    obtain ⟨g, hg⟩ : ∃ g, backOf d dict (p : Int) (j : Int) (q : Int) = g := ⟨_, rfl⟩
                    rw [hg] at hless
                    have hgi : ¬ (q : Int) ≤ (g : Int) := by omega
                    have HG := Lib.hid hg
                    clear hg hless
                    go_wp2_with fail
                    refine (Like_any F AF cF d dict nice mp _ (p : Int) (j : Int) (q : Int) _ (HR2.out.at_.drewN m2)).mono ?_
                    rintro e w3 ⟨rfl, m3, rfl⟩
                    rw [HG.out]
                    go_wp2_with fail
                    go_roundw
                    case rel => exact ⟨j + 1, _, by omega, by omega, by go_num, rfl⟩
                    case measure => simp [intOf]; omega
                  · obtain rfl : j = k := by omega
                    go_wp2_with fail
                    exact ⟨⟨p + 1, by omega, by go_num, Lib.hid (HR2.out.below (below_drewN (Below.refl _ _) _)), Lib.hid (below_drewN HB2.out _)⟩, by simp [intOf]; omega⟩
              · go_wp2_with fail
                go_loopw [13] (fun i wr => ∃ (j m : Nat), 1 ≤ j ∧ j ≤ k ∧ i = .int .i64 (j : Nat) ∧ wr = w2.drewN m) (fun i _ => k - (intOf i).toNat)
                case atStart => exact ⟨1, _, by omega, by omega, rfl, rfl⟩
                case round =>
                  obtain ⟨j, m2, hj1, hj, rfl, rfl⟩ := hrel
                  by_cases hjk : j < k
                  · have hji : (j : Int) < (k : Int) := by omega
                    have hless := HS.out.less j hj1 hjk
                    obtain ⟨g, hg⟩ : ∃ g, backOf d dict (p : Int) (j : Int) (q : Int) = g := ⟨_, rfl⟩
                    rw [hg] at hless
                    have hgi : ¬ (q : Int) ≤ (g : Int) := by omega
                    have HG := Lib.hid hg
                    clear hg hless
                    go_wp2_with fail
                    refine (Like_any F AF cF d dict nice mp _ (p : Int) (j : Int) (q : Int) _ (HR2.out.at_.drewN m2)).mono ?_
                    rintro e w3 ⟨rfl, m3, rfl⟩
                    rw [HG.out]
                    go_wp2_with fail
                    exact ⟨⟨j + 1, _, by omega, by omega, by go_num, rfl⟩, by simp [intOf]; omega⟩
                  · obtain rfl : j = k := by omega
                    go_wp2_with fail
                    exact ⟨⟨p + 1, by omega, by go_num, Lib.hid (HR2.out.below (below_drewN (Below.refl _ _) _)), Lib.hid (below_drewN HB2.out _)⟩, by simp [intOf]; omega⟩
            · go_wp2_with fail
              go_loopw [13] (fun i wr => ∃ (j m : Nat), 1 ≤ j ∧ j ≤ k ∧ i = .int .i64 (j : Nat) ∧ wr = w2.drewN m) (fun i _ => k - (intOf i).toNat)
              case atStart => exact ⟨1, _, by omega, by omega, rfl, rfl⟩
              case round =>
                obtain ⟨j, m2, hj1, hj, rfl, rfl⟩ := hrel
                by_cases hjk : j < k
                · have hji : (j : Int) < (k : Int) := by omega
                  have hless := HS.out.less j hj1 hjk
                  obtain ⟨g, hg⟩ : ∃ g, backOf d dict (p : Int) (j : Int) (q : Int) = g := ⟨_, rfl⟩
                  rw [hg] at hless
                  have hgi : ¬ (q : Int) ≤ (g : Int) := by omega
                  have HG := Lib.hid hg
                  clear hg hless
                  go_wp2_with fail
                  refine (Like_any F AF cF d dict nice mp _ (p : Int) (j : Int) (q : Int) _ (HR2.out.at_.drewN m2)).mono ?_
                  rintro e w3 ⟨rfl, m3, rfl⟩
                  rw [HG.out]
                  go_wp2_with fail
                  exact ⟨⟨j + 1, _, by omega, by omega, by go_num, rfl⟩, by simp [intOf]; omega⟩
                · obtain rfl : j = k := by omega
                  go_wp2_with fail
                  exact ⟨⟨p + 1, by omega, by go_num, Lib.hid (HR2.out.below (below_drewN (Below.refl _ _) _)), Lib.hid (below_drewN HB2.out _)⟩, by simp [intOf]; omega⟩
    · obtain rfl : p = d.length := by omega
      go_wp2_with fail
      refine (knows_any _).mono ?_
      rintro e w2 ⟨rfl, hb⟩
      go_wp2_with fail
      go_ret
      exact ⟨rfl, HB.out.trans (hb.mono HB.out.size)⟩
end Go.Proofs.Yteejcdkpeghilaa
