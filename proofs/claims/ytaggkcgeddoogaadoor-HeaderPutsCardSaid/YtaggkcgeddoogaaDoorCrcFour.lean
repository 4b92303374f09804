/- Four bytes that enter a CRC-32 register together. -/
import Derived.Test.YtaggkcgeddoogaaDoorCrcTab
namespace Go.Proofs.YtaggkcgeddoogaaDoor.C3
open Go.RowKit

/-- The register's word of four bytes, as the program makes it. -/
def word4 (b0 b1 b2 b3 : UInt8) : BitVec 32 := ((Crc.ext 32 b0 ||| Crc.ext 32 b1 <<< 8) ||| Crc.ext 32 b2 <<< 16) ||| Crc.ext 32 b3 <<< 24

theorem ext_up (b : UInt8) (j i : Nat) : (Crc.ext 32 b <<< j).getLsbD i = (decide (i < 32) && decide (j ≤ i) && b.toBitVec.getLsbD (i - j)) := by
  rw [BitVec.getLsbD_shiftLeft]
  unfold Crc.ext
  rw [BitVec.getLsbD_setWidth]
  by_cases h1 : i < 32
  · by_cases h2 : i < j
    · simp [h1, h2, show ¬ j ≤ i by omega]
    · simp [h1, h2, show i - j < 32 by omega, show j ≤ i by omega]
  · simp [h1]

theorem bit8 (b : UInt8) (i : Nat) (h : 8 ≤ i) : b.toBitVec.getLsbD i = false := BitVec.getLsbD_of_ge _ _ h

theorem word4_xor (b0 b1 b2 b3 : UInt8) : word4 b0 b1 b2 b3 = ((Crc.ext 32 b0 <<< 0 ^^^ Crc.ext 32 b1 <<< 8) ^^^ Crc.ext 32 b2 <<< 16) ^^^ Crc.ext 32 b3 <<< 24 := by
  have e0 : Crc.ext 32 b0 = Crc.ext 32 b0 <<< 0 := by simp
  unfold word4
  conv => lhs; rw [e0]
  apply BitVec.eq_of_getLsbD_eq
  intro i hi
  simp only [BitVec.getLsbD_or, BitVec.getLsbD_xor, ext_up]
  by_cases h1 : i < 8
  · simp [show ¬ 8 ≤ i by omega, show ¬ 16 ≤ i by omega, show ¬ 24 ≤ i by omega]
  · by_cases h2 : i < 16
    · simp [show ¬ 16 ≤ i by omega, show ¬ 24 ≤ i by omega, bit8 b0 i (by omega)]
    · by_cases h3 : i < 24
      · simp [show ¬ 24 ≤ i by omega, bit8 b0 i (by omega), bit8 b1 (i - 8) (by omega)]
      · simp [bit8 b0 i (by omega), bit8 b1 (i - 8) (by omega), bit8 b2 (i - 16) (by omega)]

/-- A byte that enters behind j shifts might have entered ahead of them, j places up. -/
theorem eat_later (z : BitVec 32) (j : Nat) (b : UInt8) (hj : j + 8 ≤ 32) : Crc.eat P32 (Crc.sn P32 j z) b = Crc.sn P32 (j + 8) (z ^^^ Crc.ext 32 b <<< j) := by
  have h : Crc.sn P32 j (Crc.ext 32 b <<< j) = Crc.ext 32 b := by
    rw [Crc.sn_high P32 j _ (by intro i hi; rw [ext_up]; simp [show ¬ j ≤ i by omega])]
    apply BitVec.eq_of_getLsbD_eq
    intro i hi
    rw [BitVec.getLsbD_ushiftRight, ext_up]
    by_cases h8 : i < 8
    · unfold Crc.ext; rw [BitVec.getLsbD_setWidth]
      simp [show j + i < 32 by omega, hi]
    · rw [Crc.ext_bit 32 b i (by omega)]
      simp [bit8 b i (by omega)]
  unfold Crc.eat
  rw [Crc.sn_add, Crc.sn_xor P32 j, h]

theorem eats4 (r : BitVec 32) (b0 b1 b2 b3 : UInt8) : Crc.eats P32 r [b0, b1, b2, b3] = Crc.sn P32 32 (r ^^^ word4 b0 b1 b2 b3) := by
  have h0 := eat_later r 0 b0 (by omega)
  have h1 := fun z => eat_later z 8 b1 (by omega)
  have h2 := fun z => eat_later z 16 b2 (by omega)
  have h3 := fun z => eat_later z 24 b3 (by omega)
  simp only [Crc.eats, List.foldl]
  rw [show Crc.eat P32 r b0 = Crc.sn P32 8 (r ^^^ Crc.ext 32 b0 <<< 0) from h0, h1, h2, h3, word4_xor]
  simp only [BitVec.xor_assoc]

theorem low_nat (x : BitVec 32) (j : Nat) : Crc.low (x >>> j) = BitVec.ofNat 32 (x.toNat / 2 ^ j % 256) := by
  unfold Crc.low
  apply BitVec.eq_of_toNat_eq
  simp only [BitVec.toNat_setWidth, BitVec.toNat_ofNat, BitVec.toNat_ushiftRight, Nat.shiftRight_eq_div_pow]

theorem T_at (k m : Nat) (hm : m < 256) : T (256 * k + m) = Crc.sn P32 (8 * (k + 1)) (BitVec.ofNat 32 m) := by
  unfold T; rw [show (256 * k + m) / 256 = k by omega, show (256 * k + m) % 256 = m by omega]

theorem step4 (x : BitVec 32) (j k : Nat) : Crc.sn P32 (8 + k) (x >>> j) = Crc.sn P32 k (x >>> (j + 8)) ^^^ Crc.sn P32 (8 + k) (BitVec.ofNat 32 (x.toNat / 2 ^ j % 256)) := by
  rw [Crc.sn_add, Crc.sn_byte, Crc.sn_xor, low_nat, ← Crc.sn_add, BitVec.shiftRight_add]

theorem four (x : BitVec 32) : ((T (768 + x.toNat % 256) ^^^ T (512 + x.toNat / 256 % 256)) ^^^ T (256 + x.toNat / 65536 % 256)) ^^^ T (x.toNat / 16777216 % 256) = Crc.sn P32 32 x := by
  have t3 := T_at 3 (x.toNat % 256) (by omega)
  have t2 := T_at 2 (x.toNat / 256 % 256) (by omega)
  have t1 := T_at 1 (x.toNat / 65536 % 256) (by omega)
  have t0 := T_at 0 (x.toNat / 16777216 % 256) (by omega)
  have s0 := step4 x 0 24
  have s1 := step4 x 8 16
  have s2 := step4 x 16 8
  have s3 := step4 x 24 0
  simp only [Nat.mul_one, Nat.reduceMul, Nat.reduceAdd, Nat.zero_add, Nat.reducePow, Nat.div_one] at t3 t2 t1 t0 s0 s1 s2 s3
  rw [t3, t2, t1, t0]
  rw [show x >>> 0 = x from by simp] at s0
  have hz : x >>> 32 = 0#32 := by
    apply BitVec.eq_of_getLsbD_eq
    intro i _; rw [BitVec.getLsbD_ushiftRight, BitVec.getLsbD_of_ge _ _ (by omega)]; simp
  rw [s0, s1, s2, s3, hz, Crc.sn_zero, BitVec.zero_xor]
  ac_rfl

theorem bo32 (a b : BitVec 32) : bits .or .u32 (a.toNat : Int) (b.toNat : Int) = ((a ||| b).toNat : Int) := by
  rw [u32_or_nat _ _ a.isLt b.isLt, BitVec.toNat_or]
theorem ext_nat (b : UInt8) : (Crc.ext 32 b).toNat = b.toNat := by
  have := b.toNat_lt
  unfold Crc.ext; simp only [BitVec.toNat_setWidth, UInt8.toNat_toBitVec]; omega
theorem ext_shl (b : UInt8) (j : Nat) (h : j ≤ 24) : (Crc.ext 32 b <<< j).toNat = b.toNat * 2 ^ j := by
  have hb := b.toNat_lt
  have hj : 2 ^ j ≤ 2 ^ 24 := Nat.pow_le_pow_right (by omega) h
  have hm : b.toNat * 2 ^ j ≤ 255 * 2 ^ 24 := Nat.mul_le_mul (by omega) hj
  rw [BitVec.toNat_shiftLeft, ext_nat, Nat.shiftLeft_eq, Nat.mod_eq_of_lt (by omega)]
theorem four_word (r : BitVec 32) (b0 b1 b2 b3 : UInt8) : bits .xor .u32 (r.toNat : Int) (bits .or .u32 (bits .or .u32 (bits .or .u32 (b0.toNat : Int) ((b1.toNat : Int) * 256)) ((b2.toNat : Int) * 65536)) ((b3.toNat : Int) * 16777216))
    = ((r ^^^ word4 b0 b1 b2 b3).toNat : Int) := by
  have e0 : (b0.toNat : Int) = ((Crc.ext 32 b0).toNat : Int) := by rw [ext_nat]
  have e1 : (b1.toNat : Int) * (256 : Int) = ((Crc.ext 32 b1 <<< 8).toNat : Int) := by rw [ext_shl _ _ (by omega)]; omega
  have e2 : (b2.toNat : Int) * (65536 : Int) = ((Crc.ext 32 b2 <<< 16).toNat : Int) := by rw [ext_shl _ _ (by omega)]; omega
  have e3 : (b3.toNat : Int) * (16777216 : Int) = ((Crc.ext 32 b3 <<< 24).toNat : Int) := by rw [ext_shl _ _ (by omega)]; omega
  rw [e0, e1, e2, e3, bo32, bo32, bo32, bx32]; rfl
theorem byteAt (x : BitVec 32) (d : Nat) : ∃ m : Nat, m < 256 ∧ m = x.toNat / d % 256 ∧ IntKind.u8.wrap ((x.toNat : Int) / (d : Int)) = (m : Int) :=
  ⟨x.toNat / d % 256, Nat.mod_lt _ (by omega), rfl, by rw [IntKind.wrap_u8']; omega⟩

set_option maxRecDepth 100000 in
set_option maxHeartbeats 1000000 in
theorem enterFour_any (g : Nat) (r : BitVec 32) (b off n c : Nat) (b0 b1 b2 b3 : UInt8) (w : World) (hn : 4 ≤ n) (hmax : n ≤ 9223372036854775807)
    (c0 : w.cell? ⟨b, off, none⟩ = some (.int .u8 (b0.toNat : Nat))) (c1 : w.cell? ⟨b, off + 1, none⟩ = some (.int .u8 (b1.toNat : Nat)))
    (c2 : w.cell? ⟨b, off + 2, none⟩ = some (.int .u8 (b2.toNat : Nat))) (c3 : w.cell? ⟨b, off + 3, none⟩ = some (.int .u8 (b3.toNat : Nat)))
    (hT : ∀ i, i < 1024 → w.cell? ⟨g, i, none⟩ = some (.int .u32 (T i).toNat)) :
    Calls Tryd.prog 76 #[.pointer (some ⟨g, 0, none⟩), .int .u32 r.toNat, .slice (some ⟨b, off, none⟩) n c] w fun e w' =>
      e = .returned (.int .u32 (Crc.eats P32 r [b0, b1, b2, b3]).toNat) ∧ ∃ k, w' = w.drewN k := by
  have hn0 : (0 : Int) < n := by omega
  have hn1 : (1 : Int) < n := by omega
  have hn2 : (2 : Int) < n := by omega
  have hn3 : (3 : Int) < n := by omega
  have l0 := b0.toNat_lt
  have l1 := b1.toNat_lt
  have l2 := b2.toNat_lt
  have l3 := b3.toNat_lt
  have HT := Lib.hid hT; clear hT
  rw [eats4]
  have hw := Lib.hid (four_word r b0 b1 b2 b3)
  go_enter Tryd.func76, Tryd.ntmps76
  go_wp2_with fail
  go_quiet (fail)
  go_wp2_with fail
  rw [hw.out]
  clear hw
  have hf := Lib.hid (four (r ^^^ word4 b0 b1 b2 b3))
  generalize hx : r ^^^ word4 b0 b1 b2 b3 = x at *
  have HX := Lib.hid hx; clear hx
  obtain ⟨m0, hm0, em0, w0⟩ := byteAt x 1
  obtain ⟨m1, hm1, em1, w1⟩ := byteAt x 256
  obtain ⟨m2, hm2, em2, w2⟩ := byteAt x 65536
  obtain ⟨m3, hm3, em3, w3⟩ := byteAt x 16777216
  have d3 := HT.out (768 + m0) (by omega)
  have d2 := HT.out (512 + m1) (by omega)
  have d1 := HT.out (256 + m2) (by omega)
  have d0 := HT.out m3 (by omega)
  have E0 := Lib.hid em0
  have E1 := Lib.hid em1
  have E2 := Lib.hid em2
  have E3 := Lib.hid em3
  clear em0 em1 em2 em3
  rw [show ((1 : Nat) : Int) = 1 from rfl, Int.ediv_one] at w0
  rw [show ((256 : Nat) : Int) = 256 from rfl] at w1
  rw [show ((65536 : Nat) : Int) = 65536 from rfl] at w2
  rw [show ((16777216 : Nat) : Int) = 16777216 from rfl] at w3
  have i0 : (m0 : Int) < 256 := by omega
  have i1 : (m1 : Int) < 256 := by omega
  have i2 : (m2 : Int) < 256 := by omega
  have i3 : (m3 : Int) < 256 := by omega
  go_quiet (fail)
  go_wp2_with fail
  have h0 := E0.out
  rw [Nat.div_one] at h0
  have hnum : bits .xor .u32 (bits .xor .u32 (bits .xor .u32 ((T (768 + m0)).toNat : Int) ((T (512 + m1)).toNat : Int)) ((T (256 + m2)).toNat : Int)) ((T m3).toNat : Int) = ((Crc.sn P32 32 (r ^^^ word4 b0 b1 b2 b3)).toNat : Int) := by
    rw [bx32, bx32, bx32, HX.out, ← hf.out, ← h0, ← E1.out, ← E2.out, ← E3.out]
  go_ret
  exact ⟨congrArg (fun n : Int => Ending.returned (Value.int .u32 n)) hnum, _, World.drewN_drewN _ _ _⟩
end Go.Proofs.YtaggkcgeddoogaaDoor.C3
