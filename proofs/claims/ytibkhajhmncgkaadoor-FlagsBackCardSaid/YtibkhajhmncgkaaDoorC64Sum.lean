/- The contracts of crc64.Sum and of the reference's On and Sum. -/
import Derived.Test.YtibkhajhmncgkaaDoorC64Ref
namespace Go.Proofs.YtibkhajhmncgkaaDoor.C64
open Go.RowKit

theorem on_zero (A : Option Addr) (l : List UInt8) (c : Nat) (w : World) (hB : Bytes w A l) (hc : l.length ≤ c) (hm : c ≤ 9223372036854775807) :
    Calls Tryd.prog 48 #[.int .u64 0, .slice A l.length c] w fun e w' =>
      e = .returned (.int .u64 (crcOf 0#64 l).toNat) ∧ Below w.heap.size w w' := on_any 0#64 A l c w hB hc hm

set_option maxHeartbeats 400000 in
theorem sum_any (A : Option Addr) (l : List UInt8) (c : Nat) (w : World) (hB : Bytes w A l) (hc : l.length ≤ c) (hm : c ≤ 9223372036854775807) :
    Calls Tryd.prog 38 #[.slice A l.length c] w fun e w' =>
      e = .returned (.int .u64 (crcOf 0#64 l).toNat) ∧ Below w.heap.size w w' := by
  go_enter Tryd.func38, Tryd.ntmps38
  go_wp2_with fail
  refine (on_zero A l c _ hB hc hm).mono ?_
  rintro e w' ⟨rfl, hb⟩
  go_wp2_with fail
  go_ret
  exact ⟨rfl, hb⟩

theorem not_nat (s : BitVec 64) : (18446744073709551615 : Int) - (s.toNat : Int) = ((~~~ s).toNat : Int) := by
  rw [BitVec.toNat_not]; omega

set_option maxHeartbeats 400000 in
theorem refOn_any (s : BitVec 64) (A : Option Addr) (l : List UInt8) (c : Nat) (w : World) (hB : Bytes w A l) (hm : l.length ≤ 9223372036854775807) :
    Calls Tryd.prog 42 #[.int .u64 s.toNat, .slice A l.length c] w fun e w' =>
      e = .returned (.int .u64 (crcOf s l).toNat) ∧ w = w' := by
  have hs := s.isLt
  have h1 := not_nat s
  have hfin : ((~~~ Crc.eats P64 (~~~ s) l).toNat : Int) = ((crcOf s l).toNat : Int) := rfl
  generalize ~~~ s = t at *
  have hu := not_nat (Crc.eats P64 t l)
  have hl := (Crc.eats P64 t l).isLt
  rw [hfin] at hu
  have HU := Lib.hid hu
  clear hu hfin
  go_enter Tryd.func42, Tryd.ntmps42
  go_wp2_with fail
  refine (come_any t A l c _ hB hm).mono ?_
  rintro e w' ⟨rfl, rfl⟩
  generalize Crc.eats P64 t l = u at *
  have hl' : (u.toNat : Int) < 18446744073709551616 := by omega
  go_wp2_with fail
  go_ret
  have hnum := HU.out
  exact ⟨congrArg (fun n : Int => Ending.returned (Value.int .u64 n)) hnum, rfl⟩

theorem refOn_zero (A : Option Addr) (l : List UInt8) (c : Nat) (w : World) (hB : Bytes w A l) (hm : l.length ≤ 9223372036854775807) :
    Calls Tryd.prog 42 #[.int .u64 0, .slice A l.length c] w fun e w' =>
      e = .returned (.int .u64 (crcOf 0#64 l).toNat) ∧ w = w' := refOn_any 0#64 A l c w hB hm

set_option maxHeartbeats 400000 in
theorem refSum_any (A : Option Addr) (l : List UInt8) (c : Nat) (w : World) (hB : Bytes w A l) (hm : l.length ≤ 9223372036854775807) :
    Calls Tryd.prog 27 #[.slice A l.length c] w fun e w' =>
      e = .returned (.int .u64 (crcOf 0#64 l).toNat) ∧ w = w' := by
  go_enter Tryd.func27, Tryd.ntmps27
  go_wp2_with fail
  refine (refOn_zero A l c _ hB hm).mono ?_
  rintro e w' ⟨rfl, rfl⟩
  go_wp2_with fail
  go_ret
  exact ⟨rfl, rfl⟩

end Go.Proofs.YtibkhajhmncgkaaDoor.C64
