/- Several texts in one: ReNum, ReSlot. -/
import Derived.Test.YtiodlhieaajcgaaReBitAll
import Derived.Test.YtiodlhieaajcgaaMdLit
import Derived.Test.YtiodlhieaajcgaaMdSlot
/- The numbers of the reference's chances. -/
namespace Go.Proofs.Ytiodlhieaajcgaa
open Go.RowKit

section
variable {C base h N : Nat} {lc lp pb st : Nat} {r : R4} {x : (Nat → Nat) × Rc.St} {Y : List Nat} {w : World}
theorem RE.heads (hM : RE w C base h N (lc : Nat) (lp : Nat) (pb : Nat) (st : Nat) r x Y) : w.cell? ⟨C, 0, none⟩ = some (.int .i64 (lc : Nat)) ∧ w.cell? ⟨C, 1, none⟩ = some (.int .i64 (lp : Nat)) ∧ w.cell? ⟨C, 2, none⟩ = some (.int .i64 (pb : Nat)) ∧ w.cell? ⟨C, 3, none⟩ = some (.int .i64 (st : Nat)) := by
  obtain ⟨Pl, vR, gR, gP, capP, o, cap, hC, _⟩ := hM.ex
  refine ⟨?_, ?_, ?_, ?_⟩ <;> (rw [cell_of_row w _ _ _ _ _ hC.box]; rfl)
theorem rmatch_any (hM : RE w C base h N (lc : Nat) (lp : Nat) (pb : Nat) (st : Nat) r x Y) (hst : st < 12) (p : Nat) (hp : p < 16) : Calls Try.prog 30 #[PF C, .int .i64 (p : Nat)] w fun e w' => e = .returned (.int .i64 ((16 * st + p : Nat) : Int)) ∧ w = w' := by
  obtain ⟨_, _, _, c3⟩ := hM.heads
  have hsti : (st : Int) < 12 := by omega
  have hpi : (p : Int) < 16 := by omega
  clear hM
  go_enter Try.func30, Try.ntmps30
  go_wp2_with fail
  go_ret
  exact ⟨by go_num, rfl⟩
theorem rrep_any (hM : RE w C base h N (lc : Nat) (lp : Nat) (pb : Nat) (st : Nat) r x Y) (hst : st < 12) : Calls Try.prog 32 #[PF C] w fun e w' => e = .returned (.int .i64 ((192 + st : Nat) : Int)) ∧ w = w' := by
  obtain ⟨_, _, _, c3⟩ := hM.heads
  have hsti : (st : Int) < 12 := by omega
  clear hM
  go_enter Try.func32, Try.ntmps32
  go_wp2_with fail
  go_ret
  exact ⟨by go_num, rfl⟩
theorem rwhich_any (hM : RE w C base h N (lc : Nat) (lp : Nat) (pb : Nat) (st : Nat) r x Y) (hst : st < 12) (n : Nat) (hn : n ≤ 2) : Calls Try.prog 36 #[PF C, .int .i64 (n : Nat)] w fun e w' => e = .returned (.int .i64 ((204 + 12 * n + st : Nat) : Int)) ∧ w = w' := by
  obtain ⟨_, _, _, c3⟩ := hM.heads
  have hsti : (st : Int) < 12 := by omega
  have hni : (n : Int) ≤ 2 := by omega
  clear hM
  go_enter Try.func36, Try.ntmps36
  go_wp2_with fail
  go_ret
  exact ⟨by go_num, rfl⟩
theorem rlong_any (hM : RE w C base h N (lc : Nat) (lp : Nat) (pb : Nat) (st : Nat) r x Y) (hst : st < 12) (p : Nat) (hp : p < 16) : Calls Try.prog 37 #[PF C, .int .i64 (p : Nat)] w fun e w' => e = .returned (.int .i64 ((240 + 16 * st + p : Nat) : Int)) ∧ w = w' := by
  obtain ⟨_, _, _, c3⟩ := hM.heads
  have hsti : (st : Int) < 12 := by omega
  have hpi : (p : Int) < 16 := by omega
  clear hM
  go_enter Try.func37, Try.ntmps37
  go_wp2_with fail
  go_ret
  exact ⟨by go_num, rfl⟩
theorem rlengths_yes (w : World) : Calls Try.prog 34 #[.bool true] w fun e w' => e = .returned (.int .i64 946) ∧ w = w' := by
  go_enter Try.func34, Try.ntmps34
  go_wp2_with fail
  go_ret
  exact ⟨rfl, rfl⟩
theorem rlengths_no (w : World) : Calls Try.prog 34 #[.bool false] w fun e w' => e = .returned (.int .i64 432) ∧ w = w' := by
  go_enter Try.func34, Try.ntmps34
  go_wp2_with fail
  go_ret
  exact ⟨rfl, rfl⟩
theorem rslots_any (l : Nat) (h2 : 2 ≤ l) (h3 : l ≤ 300) (w : World) : Calls Try.prog 49 #[.int .i64 (l : Nat)] w fun e w' => e = .returned (.int .i64 ((1460 + 64 * min (l - 2) 3 : Nat) : Int)) ∧ w = w' := by
  have hli : (l : Int) ≤ 300 := by omega
  have hl2 : (2 : Int) ≤ (l : Int) := by omega
  by_cases hk : 3 < (l : Int) - 2
  · have hK : Hid (min (l - 2) 3 = 3) := Lib.hid (by omega)
    rw [hK.out]
    go_enter Try.func49, Try.ntmps49
    go_wp2_with fail
    go_ret
    exact ⟨rfl, rfl⟩
  · obtain ⟨K, hK⟩ : ∃ K, min (l - 2) 3 = K := ⟨_, rfl⟩
    have hKi : (l : Int) - 2 = (K : Int) := by omega
    have hK3 : (K : Int) ≤ 3 := by omega
    rw [hK]
    clear hK hk
    have hk : ¬ (3 : Int) < (K : Int) := by omega
    go_enter Try.func49, Try.ntmps49
    go_wp2_with fail
    go_ret
    exact ⟨by go_num, rfl⟩
theorem rlow_any (s : Nat) (hs : s < 64) (w : World) : Calls Try.prog 51 #[.int .i64 (s : Nat)] w fun e w' => e = .returned (.int .i64 ((1716 + 32 * s : Nat) : Int)) ∧ w = w' := by
  have hsi : (s : Int) < 64 := by omega
  go_enter Try.func51, Try.ntmps51
  go_wp2_with fail
  go_ret
  exact ⟨by go_num, rfl⟩
theorem ralign_any (w : World) : Calls Try.prog 53 #[] w fun e w' => e = .returned (.int .i64 2164) ∧ w = w' := by
  go_enter Try.func53, Try.ntmps53
  go_wp2_with fail
  go_ret
  exact ⟨rfl, rfl⟩
theorem back_any (A : Option Addr) (H : List UInt8) (c : Nat) (a : Int) (w : World) (hB : Bytes w A H) (hc : H.length ≤ c) (hH : H.length ≤ 1000000000) (h1 : 1 ≤ a) (h2 : a ≤ 4294967296) : Calls Try.prog 47 #[.slice A H.length c, .int .i64 a] w fun e w' => e = .returned (.int .i64 (Md.likeN H a : Nat)) ∧ w = w' := by
  obtain ⟨LK, hLK⟩ : ∃ LK, Md.likeN H a = LK := ⟨_, rfl⟩
  rw [hLK]
  have hci : (H.length : Int) ≤ (c : Int) := by omega
  have hHi : (H.length : Int) ≤ 1000000000 := by omega
  unfold Md.likeN at hLK
  by_cases hb : a ≤ (H.length : Int)
  · rw [if_pos hb] at hLK
    obtain ⟨z, hz⟩ : ∃ z : Nat, (H.length : Int) - a = (z : Int) := ⟨((H.length : Int) - a).toNat, by omega⟩
    have hzl : (z : Int) < (H.length : Int) := by omega
    have hnb : ¬ (H.length : Int) < a := by omega
    obtain ⟨bb, off, rfl, _, hat⟩ := hB.addr (by omega)
    have cx := hat z (by omega)
    rw [← getD_of] at cx
    rw [show H.length - a.toNat = z by omega] at hLK
    generalize H.getD z 0 = u at *
    have HLK := Lib.hid hLK
    clear hat hLK hB
    go_enter Try.func47, Try.ntmps47
    go_wp2_with fail
    go_ret
    refine ⟨congrArg (fun n : Int => Ending.returned (Value.int .i64 n)) ?_, rfl⟩
    rw [← HLK.out]
    exact wrap64_of (by omega) (by have := u.toNat_lt; omega)
  · rw [if_neg hb] at hLK
    subst hLK
    have hnb : (H.length : Int) < a := by omega
    clear hB
    go_enter Try.func47, Try.ntmps47
    go_wp2_with fail
    go_ret
    exact ⟨rfl, rfl⟩
end
end Go.Proofs.Ytiodlhieaajcgaa

/- The reference's Slot and Table. -/
namespace Go.Proofs.Ytiodlhieaajcgaa
open Go.RowKit

theorem bitLen_small {x : Nat} (h1 : 2 ≤ x) (h2 : x ≤ 3) : Lib.bitLen x = 2 := by
  rcases (by omega : x = 2 ∨ x = 3) with rfl | rfl <;> decide
theorem slot_of {d n : Nat} (h2 : 2 ≤ d / 2 ^ n) (h3 : d / 2 ^ n ≤ 3) (hd : d < 4294967296) (hn : 1 ≤ n) : slotN d = 2 * n + d / 2 ^ n ∧ 4 ≤ d := by
  have hp : 2 ≤ 2 ^ n := by
    have : 2 ^ 1 ≤ 2 ^ n := Nat.pow_le_pow_right (by omega) hn
    omega
  have hle : 2 * 2 ^ n ≤ d := (Nat.le_div_iff_mul_le (by omega)).1 h2
  have h4 : 4 ≤ d := by omega
  have hb : Lib.bitLen d = n + 2 := by
    rw [Lib.bitLen_shift n d (by omega) (by omega), bitLen_small h2 h3]
  refine ⟨?_, h4⟩
  unfold slotN
  rw [if_neg (by omega), hb, Nat.add_sub_cancel]
  omega
def SlotDone (d n : Nat) (w : World) (e : Ending) (w' : World) : Prop := e = .returned (.tuple #[.int .i64 (slotN d : Nat), .int .i64 (n : Nat)]) ∧ w = w'
theorem slotN_n {d n : Nat} (h2 : 2 ≤ d / 2 ^ n) (h3 : d / 2 ^ n ≤ 3) (hd : d < 4294967296) (hn : 1 ≤ n) : slotN d / 2 - 1 = n ∧ 4 ≤ slotN d := by
  have := (slot_of h2 h3 hd hn).1
  omega
set_option maxRecDepth 100000 in
set_option maxHeartbeats 1000000 in
theorem rslot_small (d : Nat) (h : d < 4) (w : World) : Calls Try.prog 48 #[.int .i64 (d : Nat)] w (SlotDone d 0 w) := by
  have hdi : (d : Int) < 4 := by omega
  have HS : Hid (slotN d = d) := Lib.hid (by unfold slotN; rw [if_pos h])
  unfold SlotDone
  rw [HS.out]
  go_enter Try.func48, Try.ntmps48
  go_wp2_with fail
  go_ret2
  exact ⟨rfl, rfl⟩
set_option maxRecDepth 100000 in
set_option maxHeartbeats 1000000 in
theorem rslot_big (d : Nat) (h : 4 ≤ d) (hd : d < 4294967296) (w : World) : Calls Try.prog 48 #[.int .i64 (d : Nat)] w (SlotDone d (slotN d / 2 - 1) w) := by
  have hdi : ¬ (d : Int) < 4 := by omega
  have hd0 : (d : Int) < 4294967296 := by omega
  have HD := Lib.hid (And.intro h hd)
  clear h
  go_enter Try.func48, Try.ntmps48
  go_wp2_with fail
  go_loopw [4, 5] (fun ns xs wr => ∃ (n x : Nat), ns = .int .i64 (n : Nat) ∧ xs = .int .i64 (x : Nat) ∧ Hid (x = d / 2 ^ n) ∧ x < 4294967296 ∧ Hid ((n = 0 ∧ 4 ≤ x) ∨ 2 ≤ x) ∧ n ≤ 30 ∧ Hid (2 ^ n ≤ d) ∧ w = wr) (fun _ xs _ => (intOf xs).toNat)
  case atStart => exact ⟨0, d, rfl, rfl, Lib.hid (by simp), hd, Lib.hid (.inl ⟨rfl, HD.out.1⟩), by omega, Lib.hid (by have := HD.out; simp; omega), rfl⟩
  case round =>
    obtain ⟨n, x, rfl, rfl, HX, hx, HB, hn30, HP, rfl⟩ := hrel
    have hxi : (x : Int) < 4294967296 := by omega
    have hni : (n : Int) ≤ 30 := by omega
    by_cases h3 : 3 < x
    · have h3i : (3 : Int) < (x : Int) := by omega
      have hn29 : n + 1 ≤ 30 := by
        rcases Nat.lt_or_ge n 30 with h | h
        · omega
        · exfalso
          have hx2 := HX.out
          have hd2 := HD.out.2
          have : n = 30 := by omega
          rw [this] at hx2
          omega
      go_wp2_with fail
      exact ⟨⟨n + 1, x / 2, by go_num, by go_num, Lib.hid (by rw [HX.out, Nat.div_div_eq_div_mul, ← Nat.pow_succ]), by omega, Lib.hid (.inr (by omega)), hn29, Lib.hid (by
        have hx2 := HX.out
        have h2 : 2 ≤ d / 2 ^ n := by omega
        have := (Nat.le_div_iff_mul_le (Nat.pow_pos (by decide))).1 h2
        rw [Nat.pow_succ]; omega), trivial⟩, by simp [intOf]; omega⟩
    · have h3i : ¬ (3 : Int) < (x : Int) := by omega
      have hx2 := HX.out
      have hb := HB.out
      have hn1 : 1 ≤ n := by
        rcases hb with ⟨h0, h4⟩ | h
        · omega
        · rcases Nat.eq_zero_or_pos n with h0 | h0
          · subst h0
            have := HD.out.1
            simp at hx2
            omega
          · exact h0
      obtain ⟨hs, _⟩ := slot_of (d := d) (n := n) (by omega) (by omega) HD.out.2 hn1
      obtain ⟨hs2, _⟩ := slotN_n (d := d) (n := n) (by omega) (by omega) HD.out.2 hn1
      have HS := Lib.hid (And.intro hs hs2)
      have HTWO := Lib.hid (two_any n hn30 w)
      have hdv : wrap64 ((d : Int) / ((2 ^ n : Nat) : Int)) = (x : Int) := by
        rw [hx2, show (d : Int) / ((2 ^ n : Nat) : Int) = ((d / 2 ^ n : Nat) : Int) by simp]
        exact wrap64_in _ (by rw [← hx2]; exact hx)
      have hpw : ((2 ^ n : Nat) : Int) ≠ 0 := by have := Nat.one_le_two_pow (n := n); omega
      have hx3 : (x : Int) ≤ 3 := by omega
      rw [← hx2] at HS
      obtain ⟨PW, hPW⟩ : ∃ PW, 2 ^ n = PW := ⟨_, rfl⟩
      rw [hPW] at HTWO hdv hpw
      clear hs hs2 hx2 hb hPW
      go_wp2_with fail
      refine HTWO.out.mono ?_
      rintro e w1 ⟨rfl, rfl⟩
      go_wp2_with fail
      go_ret2
      unfold SlotDone
      rw [HS.out.1, ← HS.out.1, HS.out.2, HS.out.1]
      refine ⟨?_, rfl⟩
      exact congrArg (fun a : Int => Ending.returned (Value.tuple #[.int .i64 a, .int .i64 (n : Nat)])) (by omega)
set_option maxRecDepth 100000 in
set_option maxHeartbeats 1000000 in
theorem rtable_any {C base h N lc lp pb st : Nat} {r : R4} {x : (Nat → Nat) × Rc.St} {Y : List Nat} {w : World} (hM : RE w C base h N (lc : Nat) (lp : Nat) (pb : Nat) (st : Nat) r x Y) (hlc : lc ≤ 4) (hlp : lp ≤ 4) (A : Option Addr) (H : List UInt8) (c : Nat) (hB : Bytes w A H) (hc : H.length ≤ c) (hH : H.length ≤ 1000000000) :
    Calls Try.prog 45 #[PF C, .slice A H.length c] w (Tells (.int .i64 ((2180 + 768 * ctxN lc lp H : Nat) : Int)) w) := by
  obtain ⟨c0, c1, _, _⟩ := hM.heads
  have hHi : (H.length : Int) ≤ 1000000000 := by omega
  have HT1 := Lib.hid (two_any lp (by omega) w)
  have HQ1 := Lib.hid (fun (n : Nat) => show Calls Try.prog 27 #[.int .i64 (lc : Nat)] (w.drewN n) fun e w'' => e = .returned (.int .i64 (2 ^ lc : Nat)) ∧ ∃ m, w'' = w.drewN m from (two_any lc (by omega) (w.drewN n)).mono fun e w' h => ⟨h.1, n, h.2.symm⟩)
  have HQ2 := Lib.hid (fun (n : Nat) => show Calls Try.prog 27 #[.int .i64 ((8 - lc : Nat) : Int)] (w.drewN n) fun e w'' => e = .returned (.int .i64 (2 ^ (8 - lc) : Nat)) ∧ ∃ m, w'' = w.drewN m from (two_any (8 - lc) (by omega) (w.drewN n)).mono fun e w' h => ⟨h.1, n, h.2.symm⟩)
  have HQ3 := Lib.hid (fun (n : Nat) => show Calls Try.prog 47 #[.slice A H.length c, .int .i64 1] (w.drewN n) fun e w'' => e = .returned (.int .i64 (Md.likeN H 1 : Nat)) ∧ ∃ m, w'' = w.drewN m from (back_any A H c 1 (w.drewN n) (hB.drewN n) hc hH (by omega) (by omega)).mono fun e w' h => ⟨h.1, n, h.2.symm⟩)
  have hwr : IntKind.i64.wrap (8 - (lc : Int)) = ((8 - lc : Nat) : Int) := by rw [IntKind.wrap_i64]; omega
  have hlk : Md.likeN H 1 < 256 := Md.likeN_lt H 1
  have hctx : ctxN lc lp H = H.length % 2 ^ lp * 2 ^ lc + Md.likeN H 1 / 2 ^ (8 - lc) := by
    unfold ctxN Md.likeN
    by_cases h0 : 0 < H.length
    · rw [if_pos h0, if_pos (by omega)]; rfl
    · rw [if_neg h0, if_neg (by omega)]
  have hck := ctxN_lt (lp := lp) H (show lc ≤ 8 by omega)
  obtain ⟨K, hK⟩ : ∃ K, ctxN lc lp H = K := ⟨_, rfl⟩
  rw [hK] at hctx hck ⊢
  obtain ⟨LK, hLK⟩ : ∃ LK, Md.likeN H 1 = LK := ⟨_, rfl⟩
  rw [hLK] at hctx hlk HQ3
  have h1 : 1 ≤ 2 ^ lp := Nat.one_le_two_pow
  have h2 : 2 ^ lp ≤ 2 ^ 4 := Nat.pow_le_pow_right (by omega) hlp
  have h3 : 2 ^ lc ≤ 2 ^ 4 := Nat.pow_le_pow_right (by omega) hlc
  have h4 : 1 ≤ 2 ^ lc := Nat.one_le_two_pow
  have h5 : 1 ≤ 2 ^ (8 - lc) := Nat.one_le_two_pow
  have h6 : 2 ^ (8 - lc) ≤ 2 ^ 8 := Nat.pow_le_pow_right (by omega) (by omega)
  have h7 : 2 ^ (lc + lp) ≤ 2 ^ 8 := Nat.pow_le_pow_right (by omega) (by omega)
  obtain ⟨P1, hP1⟩ : ∃ P, 2 ^ lp = P := ⟨_, rfl⟩
  obtain ⟨P2, hP2⟩ : ∃ P, 2 ^ lc = P := ⟨_, rfl⟩
  obtain ⟨P3, hP3⟩ : ∃ P, 2 ^ (8 - lc) = P := ⟨_, rfl⟩
  rw [hP1] at HT1 hctx h1 h2
  rw [hP2] at HQ1 hctx h3 h4
  rw [hP3] at HQ2 hctx h5 h6
  obtain ⟨A1, hA1⟩ : ∃ A1, H.length % P1 = A1 := ⟨_, rfl⟩
  have hA1l : A1 < P1 := by rw [← hA1]; exact Nat.mod_lt _ h1
  have htm : ((H.length : Nat) : Int).tmod ((P1 : Nat) : Int) = (A1 : Int) := by rw [Int.tmod_eq_emod_of_nonneg (by omega), ← hA1]; omega
  have hp1 : ((P1 : Nat) : Int) ≠ 0 := by omega
  have hp3 : ((P3 : Nat) : Int) ≠ 0 := by omega
  rw [hA1] at hctx
  have hK256 : K < 256 := by omega
  have HC := Lib.hid (And.intro hctx (And.intro hlk (And.intro hK256 (And.intro hA1l (And.intro h2 (And.intro h3 h5))))))
  clear hM hB hctx hlk hck hK hLK h1 h2 h3 h4 h5 h6 h7 hP1 hP2 hP3 hA1 hA1l hK256
  go_enter Try.func45, Try.ntmps45
  go_wp2_with fail
  refine HT1.out.mono ?_
  rintro e w1 ⟨rfl, rfl⟩
  go_upto_region 2 with fail
  go_quiet (first | with_reducible exact HQ1.out _ | with_reducible exact HQ2.out _ | with_reducible exact HQ3.out _)
  go_wp2_with fail
  go_ret
  refine ⟨?_, below_drewN (Below.refl _ _) _⟩
  refine congrArg (fun n : Int => Ending.returned (Value.int .i64 n)) ?_
  obtain ⟨g1, g2, g3, g4, g5, g6, g7⟩ := HC.out
  have e1 : (A1 : Int) * (P2 : Int) = ((A1 * P2 : Nat) : Int) := by simp
  have e2 : (LK : Int) / (P3 : Int) = ((LK / P3 : Nat) : Int) := by simp
  have h1 : A1 * P2 ≤ 16 * 16 := Nat.mul_le_mul (by omega) (by omega)
  have h2 : LK / P3 ≤ LK := Nat.div_le_self _ _
  rw [e1, e2, wrap64_in _ (by omega : A1 * P2 < 4294967296), wrap64_in _ (by omega : LK / P3 < 4294967296)]
  rw [show ((A1 * P2 : Nat) : Int) + ((LK / P3 : Nat) : Int) = (K : Int) by omega, wrap64_in _ (by omega : K < 4294967296)]
  rw [show (768 : Int) * (K : Int) = ((768 * K : Nat) : Int) by omega, wrap64_in _ (by omega)]
  rw [show (2180 : Int) + ((768 * K : Nat) : Int) = ((2180 + 768 * K : Nat) : Int) by omega, wrap64_in _ (by omega)]
end Go.Proofs.Ytiodlhieaajcgaa
