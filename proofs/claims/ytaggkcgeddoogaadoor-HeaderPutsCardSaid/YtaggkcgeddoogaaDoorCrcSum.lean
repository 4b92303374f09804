/- The contracts of crc32.Sum and of the reference's Sum. -/
import Derived.Test.YtaggkcgeddoogaaDoorCrcRef
namespace Go.Proofs.YtaggkcgeddoogaaDoor.C3
open Go.RowKit

theorem on_zero (A : Option Addr) (l : List UInt8) (c : Nat) (w : World) (hB : Bytes w A l) (hc : l.length ≤ c) (hm : c ≤ 9223372036854775807) :
    Calls Tryd.prog 66 #[.int .u32 0, .slice A l.length c] w fun e w' =>
      e = .returned (.int .u32 (crcOf 0#32 l).toNat) ∧ Below w.heap.size w w' := on_any 0#32 A l c w hB hc hm

set_option maxHeartbeats 400000 in
theorem sum_any (A : Option Addr) (l : List UInt8) (c : Nat) (w : World) (hB : Bytes w A l) (hc : l.length ≤ c) (hm : c ≤ 9223372036854775807) :
    Calls Tryd.prog 52 #[.slice A l.length c] w fun e w' =>
      e = .returned (.int .u32 (crcOf 0#32 l).toNat) ∧ Below w.heap.size w w' := by
  go_enter Tryd.func52, Tryd.ntmps52
  go_wp2_with fail
  refine (on_zero A l c _ hB hc hm).mono ?_
  rintro e w' ⟨rfl, hb⟩
  go_wp2_with fail
  go_ret
  exact ⟨rfl, hb⟩

theorem not_nat (s : BitVec 32) : (4294967295 : Int) - (s.toNat : Int) = ((~~~ s).toNat : Int) := by
  rw [BitVec.toNat_not]; omega

set_option maxHeartbeats 400000 in
theorem refSum_any (A : Option Addr) (l : List UInt8) (c : Nat) (w : World) (hB : Bytes w A l) (hm : l.length ≤ 9223372036854775807) :
    Calls Tryd.prog 42 #[.slice A l.length c] w fun e w' =>
      e = .returned (.int .u32 (crcOf 0#32 l).toNat) ∧ w = w' := by
  have hfin : ((~~~ Crc.eats P32 (~~~ 0#32) l).toNat : Int) = ((crcOf 0#32 l).toNat : Int) := rfl
  have hu := not_nat (Crc.eats P32 (~~~ 0#32) l)
  have hl := (Crc.eats P32 (~~~ 0#32) l).isLt
  rw [hfin] at hu
  have HU := Lib.hid hu
  clear hu hfin
  have hcome : Calls Tryd.prog 59 #[.int .u32 4294967295, .slice A l.length c] w fun e w' =>
      e = .returned (.int .u32 (Crc.eats P32 (~~~ 0#32) l).toNat) ∧ w = w' := come_any (~~~ 0#32) A l c w hB hm
  have HC := Lib.hid hcome
  clear hcome
  generalize Crc.eats P32 (~~~ 0#32) l = u at *
  go_enter Tryd.func42, Tryd.ntmps42
  go_wp2_with fail
  refine HC.out.mono ?_
  rintro e w' ⟨rfl, rfl⟩
  have hl' : (u.toNat : Int) < 4294967296 := by omega
  go_wp2_with fail
  go_ret
  have hnum := HU.out
  exact ⟨congrArg (fun n : Int => Ending.returned (Value.int .u32 n)) hnum, rfl⟩

end Go.Proofs.YtaggkcgeddoogaaDoor.C3
