/- The contracts of crc32.Sum, of the reference's On and Sum, of the examples, and of the laws Crc32Sums and Crc32Parts. -/
import Derived.Test.YtkcimaebkjinfaaCrcRef
import Derived.Lib.SlBytesConst
namespace Go.Proofs.Ytkcimaebkjinfaa
open Go.RowKit

theorem on_zero (A : Option Addr) (l : List UInt8) (c : Nat) (w : World) (hB : Bytes w A l) (hc : l.length ≤ c) (hm : c ≤ 9223372036854775807) :
    Calls Try.prog 9 #[.int .u32 0, .slice A l.length c] w fun e w' =>
      e = .returned (.int .u32 (crcOf 0#32 l).toNat) ∧ Below w.heap.size w w' := on_any 0#32 A l c w hB hc hm

set_option maxHeartbeats 400000 in
theorem sum_any (A : Option Addr) (l : List UInt8) (c : Nat) (w : World) (hB : Bytes w A l) (hc : l.length ≤ c) (hm : c ≤ 9223372036854775807) :
    Calls Try.prog 7 #[.slice A l.length c] w fun e w' =>
      e = .returned (.int .u32 (crcOf 0#32 l).toNat) ∧ Below w.heap.size w w' := by
  go_enter Try.func7, Try.ntmps7
  go_wp2_with fail
  refine (on_zero A l c _ hB hc hm).mono ?_
  rintro e w' ⟨rfl, hb⟩
  go_wp2_with fail
  go_ret
  exact ⟨rfl, hb⟩

theorem not_nat (s : BitVec 32) : (4294967295 : Int) - (s.toNat : Int) = ((~~~ s).toNat : Int) := by
  rw [BitVec.toNat_not]; omega

set_option maxHeartbeats 400000 in
theorem refOn_any (s : BitVec 32) (A : Option Addr) (l : List UInt8) (c : Nat) (w : World) (hB : Bytes w A l) (hm : l.length ≤ 9223372036854775807) :
    Calls Try.prog 10 #[.int .u32 s.toNat, .slice A l.length c] w fun e w' =>
      e = .returned (.int .u32 (crcOf s l).toNat) ∧ w = w' := by
  have hs := s.isLt
  have h1 := not_nat s
  have hfin : ((~~~ Crc.eats P32 (~~~ s) l).toNat : Int) = ((crcOf s l).toNat : Int) := rfl
  generalize ~~~ s = t at *
  have hu := not_nat (Crc.eats P32 t l)
  have hl := (Crc.eats P32 t l).isLt
  rw [hfin] at hu
  have HU := Lib.hid hu
  clear hu hfin
  go_enter Try.func10, Try.ntmps10
  go_wp2_with fail
  refine (come_any t A l c _ hB hm).mono ?_
  rintro e w' ⟨rfl, rfl⟩
  generalize Crc.eats P32 t l = u at *
  have hl' : (u.toNat : Int) < 4294967296 := by omega
  go_wp2_with fail
  go_ret
  have hnum := HU.out
  exact ⟨congrArg (fun n : Int => Ending.returned (Value.int .u32 n)) hnum, rfl⟩

set_option maxHeartbeats 400000 in
theorem refSum_any (A : Option Addr) (l : List UInt8) (c : Nat) (w : World) (hB : Bytes w A l) (hm : l.length ≤ 9223372036854775807) :
    Calls Try.prog 8 #[.slice A l.length c] w fun e w' =>
      e = .returned (.int .u32 (crcOf 0#32 l).toNat) ∧ w = w' := by
  have hfin : ((~~~ Crc.eats P32 (~~~ 0#32) l).toNat : Int) = ((crcOf 0#32 l).toNat : Int) := rfl
  have hu := not_nat (Crc.eats P32 (~~~ 0#32) l)
  have hl := (Crc.eats P32 (~~~ 0#32) l).isLt
  rw [hfin] at hu
  have HU := Lib.hid hu
  clear hu hfin
  have hcome : Calls Try.prog 11 #[.int .u32 4294967295, .slice A l.length c] w fun e w' =>
      e = .returned (.int .u32 (Crc.eats P32 (~~~ 0#32) l).toNat) ∧ w = w' := come_any (~~~ 0#32) A l c w hB hm
  have HC := Lib.hid hcome
  clear hcome
  generalize Crc.eats P32 (~~~ 0#32) l = u at *
  go_enter Try.func8, Try.ntmps8
  go_wp2_with fail
  refine HC.out.mono ?_
  rintro e w' ⟨rfl, rfl⟩
  have hl' : (u.toNat : Int) < 4294967296 := by omega
  go_wp2_with fail
  go_ret
  have hnum := HU.out
  exact ⟨congrArg (fun n : Int => Ending.returned (Value.int .u32 n)) hnum, rfl⟩

theorem crc_example : crcOf 0#32 [49, 50, 51, 52, 53, 54, 55, 56, 57] = 3421780262#32 := by decide +kernel
theorem crc_empty : crcOf 0#32 [] = 0#32 := by decide +kernel

def nine : Array Value := #[.int .u8 49, .int .u8 50, .int .u8 51, .int .u8 52, .int .u8 53, .int .u8 54, .int .u8 55, .int .u8 56, .int .u8 57]
theorem nine_bytes (w : World) : Bytes (w.alloc (.cells nine 5 (9, 10))) (some ⟨w.heap.size, 0, none⟩) [49, 50, 51, 52, 53, 54, 55, 56, 57] := by
  refine .inr ⟨_, _, rfl, by simp, fun k hk => ?_⟩
  rw [cell_of_row _ _ _ nine 5 (9, 10) (heap_alloc_last _ _), Nat.zero_add]
  have hk9 : k < 9 := by simpa using hk
  match k, hk9 with
  | 0, _ | 1, _ | 2, _ | 3, _ | 4, _ | 5, _ | 6, _ | 7, _ | 8, _ => rfl

set_option maxRecDepth 100000 in
set_option maxHeartbeats 400000 in
theorem knows_any (w : World) : Calls Try.prog 6 #[] w fun e w' => e = .returned (.bool true) ∧ Below w.heap.size w w' := by
  have kc := fun (w : World) (C : Array Value) (n c : Nat) => Lib.run_convert_bytes_const (P := Try.prog) w 23 5 C n c Try.underlying23 Try.underlying5
  go_enter Try.func6, Try.ntmps6
  go_wp2_with fail
  have hbig : Below w.heap.size w (w.alloc (.cells nine 5 (9, 10))) := (Below.refl _ _).alloc (Nat.le_refl _) _
  have hB := nine_bytes w
  unfold nine at hbig hB
  refine (sum_any _ [49, 50, 51, 52, 53, 54, 55, 56, 57] 9 _ hB (by decide) (by omega)).mono ?_
  rintro e w1 ⟨rfl, hb1⟩
  rw [crc_example]
  go_wp2_with fail
  refine (sum_any none [] 0 _ .nil (by decide) (by omega)).mono ?_
  rintro e w2 ⟨rfl, hb2⟩
  rw [crc_empty]
  go_wp2_with fail
  go_ret
  exact ⟨rfl, (hbig.trans (hb1.mono (by simp))).trans (hb2.mono (Nat.le_trans hbig.size hb1.size))⟩

set_option maxRecDepth 100000 in
set_option maxHeartbeats 1000000 in
theorem sums_law (s : BitVec 32) (A : Option Addr) (l : List UInt8) (c : Nat) (w : World) (hB : Bytes w A l) (hc : l.length ≤ c) (hm : c ≤ 9223372036854775807) :
    Calls Try.prog 3 #[.int .u32 s.toNat, .slice A l.length c] w (Holds w) := by
  by_cases h : 1000 < l.length
  · have h' : (1000 : Int) < l.length := by omega
    go_enter Try.func3, Try.ntmps3
    go_wp2_with fail
    refine (knows_any _).mono ?_
    rintro e w' ⟨rfl, hb⟩
    go_wp2_with fail
    go_ret
    exact ⟨rfl, hb⟩
  · have h' : (l.length : Int) ≤ 1000 := by omega
    go_enter Try.func3, Try.ntmps3
    go_wp2_with fail
    refine (sum_any A l c _ hB hc hm).mono ?_
    rintro e w1 ⟨rfl, hb1⟩
    go_wp2_with fail
    refine (refSum_any A l c _ (hB.below hb1) (by omega)).mono ?_
    rintro e w' ⟨rfl, rfl⟩
    go_wp2_with fail
    refine (on_any s A l c _ (hB.below hb1) hc hm).mono ?_
    rintro e w2 ⟨rfl, hb2⟩
    have hb02 := hb1.trans (hb2.mono hb1.size)
    go_wp2_with fail
    refine (refOn_any s A l c _ (hB.below hb02) (by omega)).mono ?_
    rintro e w' ⟨rfl, rfl⟩
    go_wp2_with fail
    refine (knows_any _).mono ?_
    rintro e w3 ⟨rfl, hb3⟩
    go_wp2_with fail
    go_ret
    exact ⟨rfl, hb02.trans (hb3.mono hb02.size)⟩
end Go.Proofs.Ytkcimaebkjinfaa
