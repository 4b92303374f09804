/- flags' knows, and the contract of FlagsRead. -/
import Derived.Test.YtibkhajhmncgkaaDoorFlRRead
import Derived.Test.YtibkhajhmncgkaaDoorFlRReadF
namespace Go.Proofs.YtibkhajhmncgkaaDoor
open Go.RowKit

set_option maxRecDepth 100000 in
theorem head_example : headL 1 = [253, 55, 122, 88, 90, 0, 0, 1, 105, 34, 222, 54] := by decide +kernel
set_option maxRecDepth 100000 in
set_option maxHeartbeats 1000000 in
theorem fl_knows (w : World) (hT : Tabs w) : Calls Tryd.prog 6 #[] w (Holds w) := by
  have HH : Hid (Calls Tryd.prog 8 #[.int .i64 1] w (PairDone w (headL 1))) := Lib.hid (head_yes 1 w hT rfl)
  rw [head_example] at HH
  have HT := Lib.hid hT
  clear hT
  go_enter Tryd.func6, Tryd.ntmps6
  go_wp2_with fail
  refine HH.out.mono ?_
  rintro e w1 ⟨g, cap, rfl, hc, hm, hg, hgl, hF, hb1⟩
  have hr : readHeadR [] = (0, 2) := rfl
  have hRH := readHead_any none [] 0 w1 (HT.out.below hb1) .nil (by simp) (by omega) (by simp)
  rw [hr] at hRH
  have HR : Hid (Calls Tryd.prog 16 #[.slice none 0 0] w1 fun e w' => e = .returned (.tuple #[.int .i64 0, .int .i64 2]) ∧ Below w1.heap.size w1 w') := Lib.hid hRH
  have HB := Lib.hid (hF.bytes hgl)
  clear hRH hr hF hc hm
  go_wp2_with fail
  refine HR.out.mono ?_
  rintro e w2 ⟨rfl, hb2⟩
  have k : (convert 22 9 (.slice (some ⟨g, 0, none⟩) 12 cap)).run Tryd.prog w2 = .ok (.string ⟨#[253, 55, 122, 88, 90, 0, 0, 1, 105, 34, 222, 54]⟩) w2 := run_str (HB.out.below hb2) cap
  go_wp2_with fail
  go_ret
  exact ⟨rfl, hb1.trans (hb2.mono hb1.size)⟩

set_option maxRecDepth 100000 in
set_option maxHeartbeats 1000000 in
theorem read_law (A : Option Addr) (l : List UInt8) (c : Nat) (w : World) (hB : Bytes w A l) (hc : l.length ≤ c) (hm : c ≤ 9223372036854775807) (hT : Tabs w) :
    Calls Tryd.prog 4 #[.slice A l.length c] w (Holds w) := by
  by_cases h50 : 50 < l.length
  · have HK := Lib.hid (fl_knows w hT)
    have hi : (50 : Int) < (l.length : Int) := by omega
    clear h50
    go_enter Tryd.func4, Tryd.ntmps4
    go_wp2_with ((with_reducible refine HK.out.mono ?_); rintro e w' ⟨rfl, hb⟩)
    go_ret
    exact ⟨rfl, hb⟩
  have hi : (l.length : Int) ≤ 50 := by omega
  have HT := Lib.hid hT
  have H1 := Lib.hid (readHead_any A l c w hT hB hc hm (by omega))
  have H2 := Lib.hid (fun w' (h : Bytes w' A l) => rreadHead_any A l c w' h hc hm (by omega))
  have H3 := Lib.hid (fun w' (ht : Tabs w') (h : Bytes w' A l) => readFoot_any A l c w' ht h hc hm (by omega))
  have H4 := Lib.hid (fun w' (h : Bytes w' A l) => sreadFoot_any A l c w' h hc hm (by omega))
  have HB := Lib.hid hB
  generalize readHeadR l = R at *
  generalize readFootR l = Q at *
  clear hT hB h50
  go_enter Tryd.func4, Tryd.ntmps4
  go_wp2_with fail
  refine H1.out.mono ?_
  rintro e w1 ⟨rfl, hb1⟩
  have HN := Lib.hid (H2.out w1 (HB.out.below hb1))
  go_wp2_with fail
  refine HN.out.mono ?_
  rintro e w2 ⟨rfl, hb2⟩
  have g2 := hb1.trans (hb2.mono hb1.size)
  have HN2 := Lib.hid (H3.out w2 (HT.out.below g2) (HB.out.below g2))
  clear hb1 hb2 HN
  go_wp2_with fail
  refine HN2.out.mono ?_
  rintro e w3 ⟨rfl, hb3⟩
  have g3 := g2.trans (hb3.mono g2.size)
  have HN3 := Lib.hid (H4.out w3 (HB.out.below g3))
  clear g2 hb3 HN2
  go_wp2_with fail
  refine HN3.out.mono ?_
  rintro e w4 ⟨rfl, hb4⟩
  have g4 := g3.trans (hb4.mono g3.size)
  have HN4 := Lib.hid (fl_knows w4 (HT.out.below g4))
  clear g3 hb4 HN3
  go_wp2_with fail
  refine HN4.out.mono ?_
  rintro e w5 ⟨rfl, hb5⟩
  go_wp2_with fail
  go_ret
  exact ⟨rfl, g4.trans (hb5.mono g4.size)⟩
end Go.Proofs.YtibkhajhmncgkaaDoor
