/- The walks over vli's Get and the reference's Get and Put. -/
import Derived.Test.YthfmhjpmcapcbaaDoorBase
import Derived.Test.YthfmhjpmcapcbaaDoorVliGetMath
import Derived.Deep.DeepCutAuto
namespace Go.Proofs.YthfmhjpmcapcbaaDoor
open Go.RowKit

theorem or_add (a b k : Nat) (hb : b < 2 ^ k) : a * 2 ^ k ||| b = a * 2 ^ k + b := by
  rw [← Nat.shiftLeft_eq, ← Nat.shiftLeft_add_eq_or_of_lt hb]
theorem digit (N v t : Nat) (hv : v < 256) (hN : N < 128 ^ t) (ht : t < 9) :
    bits .or .u64 (N : Int) (IntKind.u64.wrap (IntKind.u64.wrap (bits .and .u8 (v : Int) 127) * 2 ^ (7 * t))) = ((N + v % 128 * 128 ^ t : Nat) : Int) := by
  have hp : (128 : Nat) ^ t = 2 ^ (7 * t) := by rw [Nat.pow_mul]
  have hle : 2 ^ (7 * t) ≤ 2 ^ 56 := Nat.pow_le_pow_right (by omega) (by omega)
  have hand : bits .and .u8 (v : Int) 127 = ((v % 128 : Nat) : Int) := by
    rw [show (127 : Int) = ((127 : Nat) : Int) from rfl, u8_and_nat _ _ (by omega) (by omega)]
    congr 1; exact Nat.and_two_pow_sub_one_eq_mod v 7
  have hd : v % 128 * 2 ^ (7 * t) ≤ 127 * 2 ^ (7 * t) := Nat.mul_le_mul_right _ (by omega)
  have e1 : IntKind.u64.wrap ((v % 128 : Nat) : Int) = ((v % 128 : Nat) : Int) := by rw [IntKind.wrap_u64]; omega
  have e2 : ((v % 128 : Nat) : Int) * 2 ^ (7 * t) = ((v % 128 * 2 ^ (7 * t) : Nat) : Int) := by simp
  have e3 : IntKind.u64.wrap ((v % 128 * 2 ^ (7 * t) : Nat) : Int) = ((v % 128 * 2 ^ (7 * t) : Nat) : Int) := by rw [IntKind.wrap_u64]; omega
  rw [hand, e1, e2, e3, u64_or_nat _ _ (by rw [hp] at hN; omega) (by omega), Nat.or_comm, or_add _ _ _ (by rw [← hp]; exact hN), hp, Nat.add_comm]

def Got (w : World) (r : Nat × Nat × Nat) (e : Ending) (w' : World) : Prop := e = .returned (.tuple #[.int .u64 (r.1 : Nat), .int .i64 (r.2.1 : Nat), .int .i64 (r.2.2 : Nat)]) ∧ w = w'

set_option maxRecDepth 100000 in
set_option maxHeartbeats 1000000 in
theorem get_any (A : Option Addr) (l : List UInt8) (c : Nat) (w : World) (hB : Bytes w A l) (hl : l.length ≤ 140737488355328) :
    Calls Tryd.prog 19 #[.slice A l.length c] w (Got w (Vl.get l)) := by
  go_enter Tryd.func19, Tryd.ntmps19
  go_wp2_with fail
  go_loopw [5, 10] (fun nn i wr => ∃ t : Nat, t ≤ l.length ∧ t < 9 ∧ i = .int .i64 (t : Nat) ∧ nn = .int .u64 (Vl.num l t : Nat) ∧ Hid (Vl.get l = Vl.go l (9 - t) t) ∧ w = wr) (fun _ i _ => l.length - (intOf i).toNat)
  case atStart => exact ⟨0, by omega, by omega, rfl, rfl, rfl, rfl⟩
  case round =>
    obtain ⟨t, ht, ht9, rfl, rfl, hgo, rfl⟩ := hrel
    by_cases hlt : t < l.length
    · obtain ⟨b, off, rfl, hb, hc⟩ := hB.addr (by omega)
      have hct := hc t hlt
      have hgd : l[t] = l.getD t 0 := by simp [List.getD, hlt]
      rw [hgd] at hct
      have hnl : ¬ l.length ≤ t := by omega
      have hlti : (t : Int) < (l.length : Int) := by omega
      have h256 := (l.getD t 0).toNat_lt
      have hnum := Vl.num_lt l t
      have hfx : 9 - t = (8 - t) + 1 := by omega
      rw [hfx] at hgo
      have HM := Lib.hid (fun h => hgo.out.trans (Vl.go_more (f := 8 - t) hnl h))
      have HBAD := Lib.hid (fun h h2 => hgo.out.trans (Vl.go_bad (f := 8 - t) hnl h h2))
      have HLAST := Lib.hid (fun h h2 => hgo.out.trans (Vl.go_last (f := 8 - t) hnl h h2))
      have HNUM := Lib.hid (show Vl.num l (t + 1) = Vl.num l t + (l.getD t 0).toNat % 128 * 128 ^ t from rfl)
      generalize (l.getD t 0).toNat = v at *
      generalize hN : Vl.num l t = N at *
      have HNN := Lib.hid hN
      have hNL := Lib.hid hnum
      clear hc hgd hB
      generalize hL : l.length = L at *
      have HL := Lib.hid hL
      clear hgo hfx hnum hN hL
      have HDG := Lib.hid (digit N v t h256 hNL.out ht9)
      go_upto_region 7 with (fail)
      rw [HDG.out]
      rw [← HNUM.out]
      generalize hN2 : Vl.num l (t + 1) = N2 at *
      have HN2 := Lib.hid hN2
      clear hN2 HDG hct
      by_cases hv : 128 ≤ v
      · have hvi : (128 : Int) ≤ (v : Int) := by omega
        by_cases h8 : t = 8
        · have h8i : ((t : Int) + 1 == 9) = true := by simp; omega
          have HE := Lib.hid (show Vl.get l = (0, 0, 6) by rw [HM.out hv, h8]; rfl)
          have H8 := Lib.hid h8
          clear h8
          go_wp2_with fail
          go_ret3
          exact ⟨by rw [HE.out]; rfl, rfl⟩
        · have h8i : ((t : Int) + 1 == 9) = false := beq_eq_false_iff_ne.2 (by omega)
          have HE := Lib.hid (HM.out hv)
          go_wp2_with fail
          go_roundw
          case rel => exact ⟨t + 1, by have := HL.out; omega, by omega, congrArg (Value.int .i64) (by omega), by rw [HN2.out], by show Vl.get l = _; rw [HE.out, show 9 - (t + 1) = 8 - t by omega], trivial⟩
          case measure => have := HL.out; simp [intOf] <;> omega
      · have hvi : ¬ (128 : Int) ≤ (v : Int) := by omega
        by_cases hv0 : v = 0
        · have hv0i : ((v : Int) == 0) = true := by simp [hv0]
          by_cases ht0 : 0 < t
          · have ht0i : (0 : Int) < (t : Int) := by omega
            have HE := Lib.hid (HBAD.out hv0 ht0)
            have HV := Lib.hid hv0
            clear hv0
            go_wp2_with fail
            go_ret3
            exact ⟨by rw [HE.out]; rfl, rfl⟩
          · have ht0i : ¬ (0 : Int) < (t : Int) := by omega
            have HE := Lib.hid (HLAST.out hv (by omega))
            have HV := Lib.hid hv0
            clear hv0
            go_wp2_with fail
            go_ret3
            exact ⟨by rw [HE.out]; rfl, rfl⟩
        · have hv0i : ((v : Int) == 0) = false := beq_eq_false_iff_ne.2 (by omega)
          have HE := Lib.hid (HLAST.out hv (by omega))
          go_wp2_with fail
          go_ret3
          exact ⟨by rw [HE.out]; rfl, rfl⟩
    · have hlti : ¬ (t : Int) < (l.length : Int) := by omega
      have hfx : 9 - t = (8 - t) + 1 := by omega
      have HE := Lib.hid (show Vl.get l = (0, 0, 2) by rw [hgo.out, hfx]; exact Vl.go_end (by omega))
      clear hfx hgo
      go_wp2_with fail
      go_ret3
      exact ⟨by rw [HE.out]; rfl, rfl⟩
end Go.Proofs.YthfmhjpmcapcbaaDoor
