/- The contract of FlagsWrite, for any argument. -/
import Derived.Test.YtibkhajhmncgkaaDoorFlWrite
namespace Go.Proofs.YtibkhajhmncgkaaDoor
open Go.RowKit

set_option maxRecDepth 100000 in
set_option maxHeartbeats 1000000 in
theorem flwrite_law (a0 : Int) (A : Option Addr) (l : List UInt8) (c : Nat) (a2 : Int) (w : World) (_lo0 : -9223372036854775808 ≤ a0) (_hi0 : a0 ≤ 9223372036854775807) (hB : Bytes w A l) (hc : l.length ≤ c) (hm : c ≤ 9223372036854775807) (lo2 : -9223372036854775808 ≤ a2) (hi2 : a2 ≤ 9223372036854775807) (hT : Tabs w) :
    Calls Tryd.prog 3 #[.int .i64 a0, .slice A l.length c, .int .i64 a2] w (Holds w) := by
  by_cases h300 : 300 < l.length
  · have HK := Lib.hid (fl_knows w hT)
    have hi : (300 : Int) < (l.length : Int) := by omega
    clear h300
    go_enter Tryd.func3, Tryd.ntmps3
    go_wp2_with ((with_reducible refine HK.out.mono ?_); rintro e w' ⟨rfl, hb⟩)
    go_ret
    exact ⟨rfl, hb⟩
  have hl : l.length ≤ 300 := by omega
  cases hf : fineB a0 with
  | false => exact write_no a0 A l c a2 w lo2 hi2 hB hc hm hT hl hf
  | true =>
    obtain ⟨b, rfl⟩ := fine_byte a0 hf
    exact write_yes b A l c a2 w lo2 hi2 hB hc hm hT hl hf
end Go.Proofs.YtibkhajhmncgkaaDoor
