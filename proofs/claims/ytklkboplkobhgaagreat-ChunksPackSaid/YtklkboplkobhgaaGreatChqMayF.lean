/- Several texts in one: ChqMay, ChqFine. -/
import Derived.Test.YtklkboplkobhgaaGreatMdPerm
import Derived.Test.YtklkboplkobhgaaGreatMdNewAll
import Derived.Test.YtklkboplkobhgaaGreatChkFine
/- The reference says which properties may be. -/
namespace Go.Proofs.YtklkboplkobhgaaGreat
set_option maxRecDepth 100000
open Go.RowKit

set_option maxRecDepth 100000 in
set_option maxHeartbeats 1000000 in
theorem may_any (lc lp pb : Int) (w : World) : Calls Tryz.prog 13 #[.int .i64 lc, .int .i64 lp, .int .i64 pb] w fun e w' => e = .returned (.bool (permB lc lp pb)) ∧ w = w' := by
  obtain ⟨R, hR⟩ : ∃ R, permB lc lp pb = R := ⟨_, rfl⟩
  rw [hR]
  by_cases hlc0 : 0 ≤ lc
  case neg =>
    have HRv : Hid (R = false) := Lib.hid (by rw [← hR]; exact decide_eq_false (by omega))
    clear hR
    go_enter Tryz.func13, Tryz.ntmps13
    go_wp2_with fail
    go_ret
    exact ⟨by rw [HRv.out]; rfl, rfl⟩
  by_cases hlc4 : lc ≤ 4
  case neg =>
    have HRv : Hid (R = false) := Lib.hid (by rw [← hR]; exact decide_eq_false (by omega))
    clear hR
    go_enter Tryz.func13, Tryz.ntmps13
    go_wp2_with fail
    go_ret
    exact ⟨by rw [HRv.out]; rfl, rfl⟩
  by_cases hlp0 : 0 ≤ lp
  case neg =>
    have HRv : Hid (R = false) := Lib.hid (by rw [← hR]; exact decide_eq_false (by omega))
    clear hR
    go_enter Tryz.func13, Tryz.ntmps13
    go_wp2_with fail
    go_ret
    exact ⟨by rw [HRv.out]; rfl, rfl⟩
  by_cases hlp4 : lp ≤ 4
  case neg =>
    have HRv : Hid (R = false) := Lib.hid (by rw [← hR]; exact decide_eq_false (by omega))
    clear hR
    go_enter Tryz.func13, Tryz.ntmps13
    go_wp2_with fail
    go_ret
    exact ⟨by rw [HRv.out]; rfl, rfl⟩
  by_cases hs4 : lc + lp ≤ 4
  case neg =>
    have HRv : Hid (R = false) := Lib.hid (by rw [← hR]; exact decide_eq_false (by omega))
    clear hR
    go_enter Tryz.func13, Tryz.ntmps13
    go_wp2_with fail
    go_ret
    exact ⟨by rw [HRv.out]; rfl, rfl⟩
  by_cases hpb0 : 0 ≤ pb
  case neg =>
    have HRv : Hid (R = false) := Lib.hid (by rw [← hR]; exact decide_eq_false (by omega))
    clear hR
    go_enter Tryz.func13, Tryz.ntmps13
    go_wp2_with fail
    go_ret
    exact ⟨by rw [HRv.out]; rfl, rfl⟩
  by_cases hpb4 : pb ≤ 4
  case neg =>
    have HRv : Hid (R = false) := Lib.hid (by rw [← hR]; exact decide_eq_false (by omega))
    clear hR
    go_enter Tryz.func13, Tryz.ntmps13
    go_wp2_with fail
    go_ret
    exact ⟨by rw [HRv.out]; rfl, rfl⟩
  have HRv : Hid (R = true) := Lib.hid (by rw [← hR]; exact decide_eq_true (by omega))
  clear hR
  go_enter Tryz.func13, Tryz.ntmps13
  go_wp2_with fail
  go_ret
  exact ⟨by rw [HRv.out]; rfl, rfl⟩
end Go.Proofs.YtklkboplkobhgaaGreat

/- The reference's chunks: which options are fine; a number in two bytes. -/
namespace Go.Proofs.YtklkboplkobhgaaGreat
set_option maxRecDepth 100000
open Go.RowKit

set_option maxRecDepth 100000 in
set_option maxHeartbeats 4000000 in
theorem rfine_any (lc lp pb nice chunk block check : Int) (chain : Value) (dict : Nat) (w : World) :
    Calls Tryz.prog 6 #[OptV lc lp pb nice chunk block check chain dict] w (BoolDone (fineB lc lp pb nice chunk dict) w) := by
  obtain ⟨R, hR⟩ : ∃ R, fineB lc lp pb nice chunk dict = R := ⟨_, rfl⟩
  rw [hR]
  obtain ⟨W, hW⟩ : ∃ W, w.alloc (.cells #[.int .i64 lc, .int .i64 lp, .int .i64 pb, .int .i64 nice, .int .i64 chunk, .int .i64 block, .int .i64 check, chain, .int .u32 (dict : Nat)] 26) = W := ⟨_, rfl⟩
  obtain ⟨hrow, hbW⟩ := optBox (vs := optRow lc lp pb nice chunk block check chain dict) hW
  have c0 : W.cell? ⟨w.heap.size, 0, none⟩ = some (.int .i64 lc) := by rw [cell_of_row W _ _ _ _ _ hrow]; rfl
  have c1 : W.cell? ⟨w.heap.size, 1, none⟩ = some (.int .i64 lp) := by rw [cell_of_row W _ _ _ _ _ hrow]; rfl
  have c2 : W.cell? ⟨w.heap.size, 2, none⟩ = some (.int .i64 pb) := by rw [cell_of_row W _ _ _ _ _ hrow]; rfl
  have c3 : W.cell? ⟨w.heap.size, 3, none⟩ = some (.int .i64 nice) := by rw [cell_of_row W _ _ _ _ _ hrow]; rfl
  have c4 : W.cell? ⟨w.heap.size, 4, none⟩ = some (.int .i64 chunk) := by rw [cell_of_row W _ _ _ _ _ hrow]; rfl
  have c8 : W.cell? ⟨w.heap.size, 8, none⟩ = some (.int .u32 (dict : Nat)) := by rw [cell_of_row W _ _ _ _ _ hrow]; rfl
  have HW := Lib.hid hW
  have HBW := Lib.hid hbW
  have HM := Lib.hid (may_any lc lp pb W)
  clear hrow hW hbW
  cases hp : permB lc lp pb with
  | false =>
    rw [hp] at HM
    have HRf : Hid (R = false) := Lib.hid (by rw [← hR]; unfold fineB; rw [hp]; rfl)
    clear hp hR
    go_enter Tryz.func6, Tryz.ntmps6
    go_upto_region 1 with fail
    rw [HW.out]
    go_wp2_with fail
    refine HM.out.mono ?_
    rintro e w1 ⟨rfl, rfl⟩
    go_wp2_with fail
    go_ret
    exact ⟨by rw [HRf.out]; rfl, HBW.out⟩
  | true =>
    rw [hp] at HM
    have hRv : R = decide ((2 ≤ nice ∧ nice ≤ 273) ∧ (1 ≤ chunk ∧ chunk ≤ 65536) ∧ 4096 ≤ dict ∧ dict ≤ 67108864) := by rw [← hR]; unfold fineB; rw [hp]; rfl
    clear hp hR
    rcases (by omega : ¬ 2 ≤ nice ∨ (2 ≤ nice ∧ ¬ nice ≤ 273) ∨ ((2 ≤ nice ∧ nice ≤ 273) ∧ ¬ 1 ≤ chunk) ∨ ((2 ≤ nice ∧ nice ≤ 273) ∧ 1 ≤ chunk ∧ ¬ chunk ≤ 65536) ∨ ((2 ≤ nice ∧ nice ≤ 273) ∧ (1 ≤ chunk ∧ chunk ≤ 65536) ∧ ¬ (4096 : Int) ≤ (dict : Int)) ∨ ((2 ≤ nice ∧ nice ≤ 273) ∧ (1 ≤ chunk ∧ chunk ≤ 65536) ∧ (4096 : Int) ≤ (dict : Int) ∧ ¬ (dict : Int) ≤ 67108864) ∨ ((2 ≤ nice ∧ nice ≤ 273) ∧ (1 ≤ chunk ∧ chunk ≤ 65536) ∧ (4096 : Int) ≤ (dict : Int) ∧ (dict : Int) ≤ 67108864)) with g1 | ⟨g1, g2⟩ | ⟨⟨g1, g2⟩, g3⟩ | ⟨⟨g1, g2⟩, g3, g4⟩ | ⟨⟨g1, g2⟩, ⟨g3, g4⟩, g5⟩ | ⟨⟨g1, g2⟩, ⟨g3, g4⟩, g5, g6⟩ | ⟨⟨g1, g2⟩, ⟨g3, g4⟩, g5, g6⟩
    all_goals
      have HRf := Lib.hid (show R = false ∨ R = true from by cases R <;> simp)
      have HRd : Hid (R = decide ((2 ≤ nice ∧ nice ≤ 273) ∧ (1 ≤ chunk ∧ chunk ≤ 65536) ∧ 4096 ≤ dict ∧ dict ≤ 67108864)) := Lib.hid hRv
      clear hRv HRf
      go_enter Tryz.func6, Tryz.ntmps6
      go_upto_region 1 with fail
      rw [HW.out]
      go_wp2_with fail
      refine HM.out.mono ?_
      rintro e w1 ⟨rfl, rfl⟩
      go_wp2_with fail
      go_ret
      first
        | exact ⟨by rw [show R = false from by rw [HRd.out]; exact decide_eq_false (by omega)]; rfl, HBW.out⟩
        | exact ⟨by rw [show R = decide ((dict : Int) ≤ 67108864) from by rw [HRd.out]; exact decide_eq_decide.2 (by omega)]; rfl, HBW.out⟩
        | exact ⟨by rw [show R = true from by rw [HRd.out]; exact decide_eq_true (by omega)]; rfl, HBW.out⟩
set_option maxHeartbeats 1000000 in
theorem rtwo_any (n : Nat) (hn : n ≤ 281474976710656) (w : World) : Calls Tryz.prog 18 #[.int .i64 (n : Nat)] w (GivesB w (twoB n)) := by
  have hni : (n : Int) ≤ 281474976710656 := by omega
  have hq : (n : Int).tdiv 256 = (n : Int) / 256 := Int.tdiv_eq_ediv_of_nonneg (by omega)
  have HO := Lib.hid (fun (v1 v2 : Value) (e1 : v1 = B8 (UInt8.ofNat (n / 256))) (e2 : v2 = B8 (UInt8.ofNat n)) => show Own w.heap.size (w.alloc (.cells #[v1, v2] 5)) (.slice (some ⟨w.heap.size, 0, none⟩) 2 2) (twoB n) by
    subst e1 e2; exact Own.lit w (twoB n) (Nat.le_refl _) (by unfold twoB; simp))
  go_enter Tryz.func18, Tryz.ntmps18
  go_wp2_with fail
  go_ret
  refine ⟨_, rfl, HO.out _ _ ?_ ?_, (Below.refl _ _).alloc (Nat.le_refl _) _⟩
  · simp only [B8, UInt8.toNat_ofNat']; congr 1
  · simp only [B8, UInt8.toNat_ofNat']; congr 1
end Go.Proofs.YtklkboplkobhgaaGreat
