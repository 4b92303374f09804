/- The reference's CRC-32, bit by bit, returns what crc32.On and crc32.Sum return; the document's examples hold. -/
import Derived.Test.YtaggkcgeddoogaaDoorCrcOn
namespace Go.Proofs.YtaggkcgeddoogaaDoor.C3
open Go.RowKit

/-- What the reference's inner loop keeps: the register and what is left of the byte, together, are the shifted register. -/
def Joint (x0 : BitVec 32) (v k : Nat) (y : BitVec 32) (xk : Nat) : Prop := xk = v / 2 ^ k ∧ y ^^^ BitVec.ofNat 32 xk = Crc.sn P32 k (x0 ^^^ BitVec.ofNat 32 v)

theorem ofNat_half (m : Nat) (h : m < 256) : BitVec.ofNat 32 m >>> 1 = BitVec.ofNat 32 (m / 2) := by
  apply BitVec.eq_of_toNat_eq
  rw [BitVec.toNat_ushiftRight, BitVec.toNat_ofNat, BitVec.toNat_ofNat, Nat.shiftRight_eq_div_pow]; omega
theorem xor_nat (y : BitVec 32) (m : Nat) (h : m < 256) : bits .xor .u32 (y.toNat : Int) (m : Int) = ((y ^^^ BitVec.ofNat 32 m).toNat : Int) := by
  have e : (m : Int) = ((BitVec.ofNat 32 m).toNat : Int) := by rw [BitVec.toNat_ofNat]; omega
  rw [e, bx32]
theorem joint_step (x0 : BitVec 32) (v k : Nat) (y : BitVec 32) (xk : Nat) (hv : xk < 256) (h : Joint x0 v k y xk) :
    Joint x0 v (k + 1) (if (y ^^^ BitVec.ofNat 32 xk).getLsbD 0 then (y >>> 1) ^^^ P32 else y >>> 1) (xk / 2) := by
  obtain ⟨h1, h2⟩ := h
  refine ⟨by rw [h1, Nat.pow_succ, Nat.div_div_eq_div_mul], ?_⟩
  rw [Crc.sn_succ', ← h2, ← ofNat_half xk hv]
  unfold Crc.s1
  rw [BitVec.ushiftRight_xor_distrib]
  split
  · rw [BitVec.xor_assoc, BitVec.xor_assoc, BitVec.xor_comm P32]
  · simp

theorem ext_ofNat (v : UInt8) : Crc.ext 32 v = BitVec.ofNat 32 v.toNat := by
  have := v.toNat_lt
  apply BitVec.eq_of_toNat_eq
  rw [ext_nat, BitVec.toNat_ofNat]; omega
theorem odd_bit (z : BitVec 32) : ((z.toNat : Int) % 2 == 1) = z.getLsbD 0 := by
  rw [lsb0, Bool.eq_iff_iff]; simp; omega

set_option maxRecDepth 100000 in
set_option maxHeartbeats 1000000 in
theorem come_any (r : BitVec 32) (A : Option Addr) (l : List UInt8) (c : Nat) (w : World) (hB : Bytes w A l) (hm : l.length ≤ 9223372036854775807) :
    Calls Tryd.prog 59 #[.int .u32 r.toNat, .slice A l.length c] w fun e w' =>
      e = .returned (.int .u32 (Crc.eats P32 r l).toNat) ∧ w = w' := by
  go_enter Tryd.func59, Tryd.ntmps59
  go_wp2_with fail
  go_loop [0, 5] (fun a i => ∃ k : Nat, k ≤ l.length ∧ i = .int .i64 k ∧ a = .int .u32 (Crc.eats P32 r (l.take k)).toNat) (fun _ i => l.length - (intOf i).toNat)
  case atStart => exact ⟨0, by omega, rfl, by simp [Crc.eats]⟩
  case round =>
    obtain ⟨k, hk, rfl, rfl⟩ := hrel
    by_cases hlt : k < l.length
    · obtain ⟨b, off, rfl, _, hcell⟩ := hB.addr (by omega)
      have hck := hcell k hlt
      have hs := Lib.hid (eats_snoc r l k hlt)
      generalize Crc.eats P32 r (l.take k) = y at *
      generalize l[k] = v at *
      have hv := v.toNat_lt
      clear hcell
      go_wp2_with fail
      go_loop [0, 6, 7] (fun a x i => ∃ (j : Nat) (z : BitVec 32) (m : Nat), j ≤ 8 ∧ m < 256 ∧ i = .int .i64 j ∧ a = .int .u32 z.toNat ∧ x = .int .u8 m ∧ Hid (Joint y v.toNat j z m)) (fun _ _ i => 8 - (intOf i).toNat)
      case atStart => exact ⟨0, y, v.toNat, by omega, by omega, rfl, rfl, rfl, by simp, rfl⟩
      case round =>
        obtain ⟨j, z, m, hj, hm256, rfl, rfl, rfl, hJ⟩ := hrel
        by_cases h8 : j < 8
        · have hx := xor_nat z m hm256
          have ho := odd_bit (z ^^^ BitVec.ofNat 32 m)
          have hst := Lib.hid (joint_step y v.toNat j z m hm256 hJ.out)
          generalize z ^^^ BitVec.ofNat 32 m = q at *
          have h2 := Lib.hid (shr1 z)
          have hp := Lib.hid (bx32 (z >>> 1) P32)
          cases hb : q.getLsbD 0 with
          | true =>
            rw [hb] at ho
            rw [hb, if_pos rfl] at hst
            clear hb
            go_wp2_with fail
            go_round
            case rel => exact ⟨j + 1, z >>> 1 ^^^ P32, m / 2, by omega, by omega, by go_num, by rw [h2.out, ← hp.out]; rfl, by go_num, hst⟩
            case measure => simp [intOf]; omega
          | false =>
            rw [hb] at ho
            rw [hb, if_neg (by decide)] at hst
            clear hb
            go_wp2_with fail
            go_round
            case rel => exact ⟨j + 1, z >>> 1, m / 2, by omega, by omega, by go_num, by rw [h2.out], by go_num, hst⟩
            case measure => simp [intOf]; omega
        · obtain rfl : j = 8 := by omega
          obtain ⟨hJ1, hJ2⟩ := hJ.out
          have hz : z = Crc.eat P32 y v := by
            have h0 : m = 0 := by omega
            rw [h0] at hJ2
            unfold Crc.eat
            rw [ext_ofNat, ← hJ2]; simp
          have HZ := Lib.hid hz
          clear hz hJ1 hJ2 hJ
          go_wp2_with fail
          go_round
          case rel => exact ⟨k + 1, by omega, by go_num, by rw [hs.out, HZ.out]⟩
          case measure => simp [intOf]; omega
    · obtain rfl : k = l.length := by omega
      go_wp2_with fail
      go_ret
      exact ⟨rfl, rfl⟩
end Go.Proofs.YtaggkcgeddoogaaDoor.C3
