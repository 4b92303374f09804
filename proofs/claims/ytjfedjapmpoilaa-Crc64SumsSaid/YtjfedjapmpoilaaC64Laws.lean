/- The contracts of crc64.Sum, of the reference's On and Sum, of the examples, and of the law Crc64Sums. -/
import Derived.Test.YtjfedjapmpoilaaC64Ref
import Derived.Lib.SlBytesConst
namespace Go.Proofs.Ytjfedjapmpoilaa.C64
open Go.RowKit

theorem on_zero (A : Option Addr) (l : List UInt8) (c : Nat) (w : World) (hB : Bytes w A l) (hc : l.length ≤ c) (hm : c ≤ 9223372036854775807) :
    Calls Try.prog 7 #[.int .u64 0, .slice A l.length c] w fun e w' =>
      e = .returned (.int .u64 (crcOf 0#64 l).toNat) ∧ Below w.heap.size w w' := on_any 0#64 A l c w hB hc hm

set_option maxHeartbeats 400000 in
theorem sum_any (A : Option Addr) (l : List UInt8) (c : Nat) (w : World) (hB : Bytes w A l) (hc : l.length ≤ c) (hm : c ≤ 9223372036854775807) :
    Calls Try.prog 5 #[.slice A l.length c] w fun e w' =>
      e = .returned (.int .u64 (crcOf 0#64 l).toNat) ∧ Below w.heap.size w w' := by
  go_enter Try.func5, Try.ntmps5
  go_wp2_with fail
  refine (on_zero A l c _ hB hc hm).mono ?_
  rintro e w' ⟨rfl, hb⟩
  go_wp2_with fail
  go_ret
  exact ⟨rfl, hb⟩

theorem not_nat (s : BitVec 64) : (18446744073709551615 : Int) - (s.toNat : Int) = ((~~~ s).toNat : Int) := by
  rw [BitVec.toNat_not]; omega

set_option maxHeartbeats 400000 in
theorem refOn_any (s : BitVec 64) (A : Option Addr) (l : List UInt8) (c : Nat) (w : World) (hB : Bytes w A l) (hm : l.length ≤ 9223372036854775807) :
    Calls Try.prog 8 #[.int .u64 s.toNat, .slice A l.length c] w fun e w' =>
      e = .returned (.int .u64 (crcOf s l).toNat) ∧ w = w' := by
  have hs := s.isLt
  have h1 := not_nat s
  have hfin : ((~~~ Crc.eats P64 (~~~ s) l).toNat : Int) = ((crcOf s l).toNat : Int) := rfl
  generalize ~~~ s = t at *
  have hu := not_nat (Crc.eats P64 t l)
  have hl := (Crc.eats P64 t l).isLt
  rw [hfin] at hu
  have HU := Lib.hid hu
  clear hu hfin
  go_enter Try.func8, Try.ntmps8
  go_wp2_with fail
  refine (come_any t A l c _ hB hm).mono ?_
  rintro e w' ⟨rfl, rfl⟩
  generalize Crc.eats P64 t l = u at *
  have hl' : (u.toNat : Int) < 18446744073709551616 := by omega
  go_wp2_with fail
  go_ret
  have hnum := HU.out
  exact ⟨congrArg (fun n : Int => Ending.returned (Value.int .u64 n)) hnum, rfl⟩

theorem refOn_zero (A : Option Addr) (l : List UInt8) (c : Nat) (w : World) (hB : Bytes w A l) (hm : l.length ≤ 9223372036854775807) :
    Calls Try.prog 8 #[.int .u64 0, .slice A l.length c] w fun e w' =>
      e = .returned (.int .u64 (crcOf 0#64 l).toNat) ∧ w = w' := refOn_any 0#64 A l c w hB hm

set_option maxHeartbeats 400000 in
theorem refSum_any (A : Option Addr) (l : List UInt8) (c : Nat) (w : World) (hB : Bytes w A l) (hm : l.length ≤ 9223372036854775807) :
    Calls Try.prog 6 #[.slice A l.length c] w fun e w' =>
      e = .returned (.int .u64 (crcOf 0#64 l).toNat) ∧ w = w' := by
  go_enter Try.func6, Try.ntmps6
  go_wp2_with fail
  refine (refOn_zero A l c _ hB hm).mono ?_
  rintro e w' ⟨rfl, rfl⟩
  go_wp2_with fail
  go_ret
  exact ⟨rfl, rfl⟩

theorem crc_example : crcOf 0#64 [49, 50, 51, 52, 53, 54, 55, 56, 57] = 11051210869376104954#64 := by decide +kernel
theorem crc_empty : crcOf 0#64 [] = 0#64 := by decide +kernel

def nine : Array Value := #[.int .u8 49, .int .u8 50, .int .u8 51, .int .u8 52, .int .u8 53, .int .u8 54, .int .u8 55, .int .u8 56, .int .u8 57]
theorem nine_bytes (w : World) : Bytes (w.alloc (.cells nine 5 (9, 10))) (some ⟨w.heap.size, 0, none⟩) [49, 50, 51, 52, 53, 54, 55, 56, 57] := by
  refine .inr ⟨_, _, rfl, by simp, fun k hk => ?_⟩
  rw [cell_of_row _ _ _ nine 5 (9, 10) (heap_alloc_last _ _), Nat.zero_add]
  have hk9 : k < 9 := by simpa using hk
  match k, hk9 with
  | 0, _ | 1, _ | 2, _ | 3, _ | 4, _ | 5, _ | 6, _ | 7, _ | 8, _ => rfl

set_option maxRecDepth 100000 in
set_option maxHeartbeats 400000 in
theorem knows_any (w : World) : Calls Try.prog 4 #[] w fun e w' => e = .returned (.bool true) ∧ Below w.heap.size w w' := by
  have kc := fun (w : World) (C : Array Value) (n c : Nat) => Lib.run_convert_bytes_const (P := Try.prog) w 23 5 C n c Try.underlying23 Try.underlying5
  go_enter Try.func4, Try.ntmps4
  go_wp2_with fail
  have hbig : Below w.heap.size w (w.alloc (.cells nine 5 (9, 10))) := (Below.refl _ _).alloc (Nat.le_refl _) _
  have hB := nine_bytes w
  unfold nine at hbig hB
  refine (sum_any _ [49, 50, 51, 52, 53, 54, 55, 56, 57] 9 _ hB (by decide) (by omega)).mono ?_
  rintro e w1 ⟨rfl, hb1⟩
  rw [crc_example]
  go_wp2_with fail
  refine (sum_any none [] 0 _ .nil (by decide) (by omega)).mono ?_
  rintro e w2 ⟨rfl, hb2⟩
  rw [crc_empty]
  go_wp2_with fail
  go_ret
  exact ⟨rfl, (hbig.trans (hb1.mono (by simp))).trans (hb2.mono (Nat.le_trans hbig.size hb1.size))⟩

end Go.Proofs.Ytjfedjapmpoilaa.C64
