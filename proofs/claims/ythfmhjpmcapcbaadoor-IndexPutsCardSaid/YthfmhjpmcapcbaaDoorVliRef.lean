/- The walks over the reference's Get and Put. -/
import Derived.Test.YthfmhjpmcapcbaaDoorVliGet
namespace Go.Proofs.YthfmhjpmcapcbaaDoor
open Go.RowKit

set_option maxRecDepth 100000 in
set_option maxHeartbeats 1000000 in
theorem rget_any (A : Option Addr) (l : List UInt8) (c : Nat) (w : World) (hB : Bytes w A l) (hl : l.length ≤ 140737488355328) :
    Calls Tryd.prog 32 #[.slice A l.length c] w (Got w (Vl.get l)) := by
  go_enter Tryd.func32, Tryd.ntmps32
  go_wp2_with fail
  go_loopw [5, 6, 7] (fun nn pp i wr => ∃ t : Nat, t ≤ 9 ∧ i = .int .i64 (t : Nat) ∧ nn = .int .u64 (Vl.num l t : Nat) ∧ pp = .int .u64 ((128 ^ t : Nat) : Int) ∧ Hid (Vl.get l = Vl.go l (9 - t) t) ∧ w = wr) (fun _ _ i _ => 9 - (intOf i).toNat)
  case atStart => exact ⟨0, by omega, rfl, rfl, rfl, rfl, rfl⟩
  case round =>
    obtain ⟨t, ht9, rfl, rfl, rfl, hgo, rfl⟩ := hrel
    by_cases h9 : t < 9
    · have h9i : (t : Int) < 9 := by omega
      have hfx : 9 - t = (8 - t) + 1 := by omega
      rw [hfx] at hgo
      by_cases hlt : t < l.length
      · obtain ⟨b, off, rfl, hb, hc⟩ := hB.addr (by omega)
        have hct := hc t hlt
        have hgd : l[t] = l.getD t 0 := by simp [List.getD, hlt]
        rw [hgd] at hct
        have hnl : ¬ l.length ≤ t := by omega
        have hlti : ¬ (l.length : Int) ≤ (t : Int) := by omega
        have hlti2 : (t : Int) < (l.length : Int) := by omega
        have h256 := (l.getD t 0).toNat_lt
        have hnum := Vl.num_lt l t
        have hP : 128 ^ t ≤ 128 ^ 8 := Nat.pow_le_pow_right (by omega) (by omega)
        have hP8 : (128 : Nat) ^ 8 = 72057594037927936 := by decide
        have HM := Lib.hid (fun h => hgo.out.trans (Vl.go_more (f := 8 - t) hnl h))
        have HBAD := Lib.hid (fun h h2 => hgo.out.trans (Vl.go_bad (f := 8 - t) hnl h h2))
        have HLAST := Lib.hid (fun h h2 => hgo.out.trans (Vl.go_last (f := 8 - t) hnl h h2))
        have HNUM := Lib.hid (show Vl.num l (t + 1) = Vl.num l t + (l.getD t 0).toNat % 128 * 128 ^ t from rfl)
        have HPW := Lib.hid (show (128 : Nat) ^ (t + 1) = 128 ^ t * 128 from Nat.pow_succ _ _)
        generalize (l.getD t 0).toNat = v at *
        generalize Vl.num l t = N at *
        generalize 128 ^ t = P at *
        have hD : v % 128 * P ≤ 127 * P := Nat.mul_le_mul_right _ (by omega)
        have hmul : IntKind.u64.wrap ((v : Int) % 128 * (P : Int)) = ((v % 128 * P : Nat) : Int) := by
          rw [show (v : Int) % 128 * (P : Int) = ((v % 128 * P : Nat) : Int) by simp, IntKind.wrap_u64]; omega
        generalize v % 128 * P = D at *
        have hDl : (D : Int) ≤ 127 * 72057594037927936 := by omega
        have hNl : (N : Int) < 72057594037927936 := by omega
        have hPl : (P : Int) ≤ 72057594037927936 := by omega
        generalize hN2 : Vl.num l (t + 1) = N2 at *
        have HN2 := Lib.hid hN2
        have hadd : (N : Int) + (D : Int) = (N2 : Int) := by have := HNUM.out; omega
        clear hc hgd hB
        generalize hL : l.length = L at *
        clear hgo hfx hnum hL hP hP8 hN2 hD
        by_cases hv : 128 ≤ v
        · have hvi : (128 : Int) ≤ (v : Int) := by omega
          have HE := Lib.hid (HM.out hv)
          go_wp2_with fail
          go_roundw
          case rel => exact ⟨t + 1, by omega, congrArg (Value.int .i64) (by omega), by rw [HN2.out], congrArg (Value.int .u64) (by have := HPW.out; omega), by show Vl.get l = _; rw [HE.out, show 9 - (t + 1) = 8 - t by omega], trivial⟩
          case measure => simp [intOf] <;> omega
        · have hvi : ¬ (128 : Int) ≤ (v : Int) := by omega
          by_cases hv0 : v = 0
          · have hv0i : ((v : Int) == 0) = true := by simp [hv0]
            by_cases ht0 : 0 < t
            · have ht0i : (0 : Int) < (t : Int) := by omega
              have HE := Lib.hid (HBAD.out hv0 ht0)
              have HV := Lib.hid hv0
              clear hv0
              go_wp2_with fail
              go_ret3
              exact ⟨by rw [HE.out]; rfl, rfl⟩
            · have ht0i : ¬ (0 : Int) < (t : Int) := by omega
              have HE := Lib.hid (HLAST.out hv (by omega))
              have HV := Lib.hid hv0
              clear hv0
              go_wp2_with fail
              go_ret3
              exact ⟨by rw [HE.out]; rfl, rfl⟩
          · have hv0i : ((v : Int) == 0) = false := beq_eq_false_iff_ne.2 (by omega)
            have HE := Lib.hid (HLAST.out hv (by omega))
            go_wp2_with fail
            go_ret3
            exact ⟨by rw [HE.out]; rfl, rfl⟩
      · have hlti : (l.length : Int) ≤ (t : Int) := by omega
        have HE := Lib.hid (show Vl.get l = (0, 0, 2) by rw [hgo.out]; exact Vl.go_end (by omega))
        clear hfx hgo
        generalize 128 ^ t = P at *
        go_wp2_with fail
        go_ret3
        exact ⟨by rw [HE.out]; rfl, rfl⟩
    · have h9i : ¬ (t : Int) < 9 := by omega
      have HE := Lib.hid (show Vl.get l = (0, 0, 6) by rw [hgo.out, show 9 - t = 0 by omega]; rfl)
      clear hgo
      generalize 128 ^ t = P at *
      go_wp2_with fail
      go_ret3
      exact ⟨by rw [HE.out]; rfl, rfl⟩
end Go.Proofs.YthfmhjpmcapcbaaDoor
