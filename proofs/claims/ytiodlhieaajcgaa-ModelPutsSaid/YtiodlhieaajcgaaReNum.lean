/- The numbers of the reference's chances. -/
import Derived.Test.YtiodlhieaajcgaaReTree
import Derived.Test.YtiodlhieaajcgaaMdLit
import Derived.Test.YtiodlhieaajcgaaMdSlot
namespace Go.Proofs.Ytiodlhieaajcgaa
open Go.RowKit

section
variable {C base h N : Nat} {lc lp pb st : Nat} {r : R4} {x : (Nat → Nat) × Rc.St} {Y : List Nat} {w : World}
theorem RE.heads (hM : RE w C base h N (lc : Nat) (lp : Nat) (pb : Nat) (st : Nat) r x Y) : w.cell? ⟨C, 0, none⟩ = some (.int .i64 (lc : Nat)) ∧ w.cell? ⟨C, 1, none⟩ = some (.int .i64 (lp : Nat)) ∧ w.cell? ⟨C, 2, none⟩ = some (.int .i64 (pb : Nat)) ∧ w.cell? ⟨C, 3, none⟩ = some (.int .i64 (st : Nat)) := by
  obtain ⟨Pl, vR, gR, gP, capP, o, cap, hC, _⟩ := hM.ex
  refine ⟨?_, ?_, ?_, ?_⟩ <;> (rw [cell_of_row w _ _ _ _ _ hC.box]; rfl)
theorem rmatch_any (hM : RE w C base h N (lc : Nat) (lp : Nat) (pb : Nat) (st : Nat) r x Y) (hst : st < 12) (p : Nat) (hp : p < 16) : Calls Try.prog 30 #[PF C, .int .i64 (p : Nat)] w fun e w' => e = .returned (.int .i64 ((16 * st + p : Nat) : Int)) ∧ w = w' := by
  obtain ⟨_, _, _, c3⟩ := hM.heads
  have hsti : (st : Int) < 12 := by omega
  have hpi : (p : Int) < 16 := by omega
  clear hM
  go_enter Try.func30, Try.ntmps30
  go_wp2_with fail
  go_ret
  exact ⟨by go_num, rfl⟩
theorem rrep_any (hM : RE w C base h N (lc : Nat) (lp : Nat) (pb : Nat) (st : Nat) r x Y) (hst : st < 12) : Calls Try.prog 32 #[PF C] w fun e w' => e = .returned (.int .i64 ((192 + st : Nat) : Int)) ∧ w = w' := by
  obtain ⟨_, _, _, c3⟩ := hM.heads
  have hsti : (st : Int) < 12 := by omega
  clear hM
  go_enter Try.func32, Try.ntmps32
  go_wp2_with fail
  go_ret
  exact ⟨by go_num, rfl⟩
theorem rwhich_any (hM : RE w C base h N (lc : Nat) (lp : Nat) (pb : Nat) (st : Nat) r x Y) (hst : st < 12) (n : Nat) (hn : n ≤ 2) : Calls Try.prog 36 #[PF C, .int .i64 (n : Nat)] w fun e w' => e = .returned (.int .i64 ((204 + 12 * n + st : Nat) : Int)) ∧ w = w' := by
  obtain ⟨_, _, _, c3⟩ := hM.heads
  have hsti : (st : Int) < 12 := by omega
  have hni : (n : Int) ≤ 2 := by omega
  clear hM
  go_enter Try.func36, Try.ntmps36
  go_wp2_with fail
  go_ret
  exact ⟨by go_num, rfl⟩
theorem rlong_any (hM : RE w C base h N (lc : Nat) (lp : Nat) (pb : Nat) (st : Nat) r x Y) (hst : st < 12) (p : Nat) (hp : p < 16) : Calls Try.prog 37 #[PF C, .int .i64 (p : Nat)] w fun e w' => e = .returned (.int .i64 ((240 + 16 * st + p : Nat) : Int)) ∧ w = w' := by
  obtain ⟨_, _, _, c3⟩ := hM.heads
  have hsti : (st : Int) < 12 := by omega
  have hpi : (p : Int) < 16 := by omega
  clear hM
  go_enter Try.func37, Try.ntmps37
  go_wp2_with fail
  go_ret
  exact ⟨by go_num, rfl⟩
theorem rlengths_yes (w : World) : Calls Try.prog 34 #[.bool true] w fun e w' => e = .returned (.int .i64 946) ∧ w = w' := by
  go_enter Try.func34, Try.ntmps34
  go_wp2_with fail
  go_ret
  exact ⟨rfl, rfl⟩
theorem rlengths_no (w : World) : Calls Try.prog 34 #[.bool false] w fun e w' => e = .returned (.int .i64 432) ∧ w = w' := by
  go_enter Try.func34, Try.ntmps34
  go_wp2_with fail
  go_ret
  exact ⟨rfl, rfl⟩
theorem rslots_any (l : Nat) (h2 : 2 ≤ l) (h3 : l ≤ 300) (w : World) : Calls Try.prog 49 #[.int .i64 (l : Nat)] w fun e w' => e = .returned (.int .i64 ((1460 + 64 * min (l - 2) 3 : Nat) : Int)) ∧ w = w' := by
  have hli : (l : Int) ≤ 300 := by omega
  have hl2 : (2 : Int) ≤ (l : Int) := by omega
  by_cases hk : 3 < (l : Int) - 2
  · have hK : Hid (min (l - 2) 3 = 3) := Lib.hid (by omega)
    rw [hK.out]
    go_enter Try.func49, Try.ntmps49
    go_wp2_with fail
    go_ret
    exact ⟨rfl, rfl⟩
  · obtain ⟨K, hK⟩ : ∃ K, min (l - 2) 3 = K := ⟨_, rfl⟩
    have hKi : (l : Int) - 2 = (K : Int) := by omega
    have hK3 : (K : Int) ≤ 3 := by omega
    rw [hK]
    clear hK hk
    have hk : ¬ (3 : Int) < (K : Int) := by omega
    go_enter Try.func49, Try.ntmps49
    go_wp2_with fail
    go_ret
    exact ⟨by go_num, rfl⟩
theorem rlow_any (s : Nat) (hs : s < 64) (w : World) : Calls Try.prog 51 #[.int .i64 (s : Nat)] w fun e w' => e = .returned (.int .i64 ((1716 + 32 * s : Nat) : Int)) ∧ w = w' := by
  have hsi : (s : Int) < 64 := by omega
  go_enter Try.func51, Try.ntmps51
  go_wp2_with fail
  go_ret
  exact ⟨by go_num, rfl⟩
theorem ralign_any (w : World) : Calls Try.prog 53 #[] w fun e w' => e = .returned (.int .i64 2164) ∧ w = w' := by
  go_enter Try.func53, Try.ntmps53
  go_wp2_with fail
  go_ret
  exact ⟨rfl, rfl⟩
theorem back_any (A : Option Addr) (H : List UInt8) (c : Nat) (a : Int) (w : World) (hB : Bytes w A H) (hc : H.length ≤ c) (hH : H.length ≤ 1000000000) (h1 : 1 ≤ a) (h2 : a ≤ 4294967296) : Calls Try.prog 47 #[.slice A H.length c, .int .i64 a] w fun e w' => e = .returned (.int .i64 (Md.likeN H a : Nat)) ∧ w = w' := by
  obtain ⟨LK, hLK⟩ : ∃ LK, Md.likeN H a = LK := ⟨_, rfl⟩
  rw [hLK]
  have hci : (H.length : Int) ≤ (c : Int) := by omega
  have hHi : (H.length : Int) ≤ 1000000000 := by omega
  unfold Md.likeN at hLK
  by_cases hb : a ≤ (H.length : Int)
  · rw [if_pos hb] at hLK
    obtain ⟨z, hz⟩ : ∃ z : Nat, (H.length : Int) - a = (z : Int) := ⟨((H.length : Int) - a).toNat, by omega⟩
    have hzl : (z : Int) < (H.length : Int) := by omega
    have hnb : ¬ (H.length : Int) < a := by omega
    obtain ⟨bb, off, rfl, _, hat⟩ := hB.addr (by omega)
    have cx := hat z (by omega)
    rw [← getD_of] at cx
    rw [show H.length - a.toNat = z by omega] at hLK
    generalize H.getD z 0 = u at *
    have HLK := Lib.hid hLK
    clear hat hLK hB
    go_enter Try.func47, Try.ntmps47
    go_wp2_with fail
    go_ret
    refine ⟨congrArg (fun n : Int => Ending.returned (Value.int .i64 n)) ?_, rfl⟩
    rw [← HLK.out]
    exact wrap64_of (by omega) (by have := u.toNat_lt; omega)
  · rw [if_neg hb] at hLK
    subst hLK
    have hnb : (H.length : Int) < a := by omega
    clear hB
    go_enter Try.func47, Try.ntmps47
    go_wp2_with fail
    go_ret
    exact ⟨rfl, rfl⟩
end
end Go.Proofs.Ytiodlhieaajcgaa
