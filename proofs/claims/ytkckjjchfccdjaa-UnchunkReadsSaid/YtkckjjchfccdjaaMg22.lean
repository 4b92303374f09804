/- Several texts in one: QrTree, QrNum. -/
import Derived.Test.YtkckjjchfccdjaaQrBit
import Derived.Test.YtkckjjchfccdjaaMg9
import Derived.Test.YtkckjjchfccdjaaMdLit
/- The reference's Reader: trees. -/
namespace Go.Proofs.Ytkckjjchfccdjaa
set_option maxRecDepth 100000
open Go.RowKit

theorem Only.same {X : List Nat} {a b c : World} (h : Only X a b) (k : Only X b c) : Only X a c := h.trans k (fun _ hi => .inl hi)
theorem wrap64_in (q : Nat) (h : q < 4294967296) : wrap64 (q : Int) = (q : Int) := by unfold wrap64; omega
theorem bitI_toNat (b : Bool) : bitI b = ((b.toNat : Nat) : Int) := by cases b <;> rfl
theorem qbit_is {gd o cap R C base h b off cc N : Nat} {L : List UInt8} {lc lp pb st : Int} {r : R4} {y : PD} {Y : List Nat} {w : World} (hM : RD w R C base h b off cc N L lc lp pb st r y Y) (hok : (decIo gd o cap L).ok y.2 0) {i : Nat} (hi : i < N) (bb : Bool) {t : Bool × PD} (ht : (decIo gd o cap L).bitAt i bb y = t) :
    Calls Try.prog 54 #[PF R, .int .i64 (i : Nat)] w (QDone (.int .i64 ((t.1.toNat : Nat) : Int)) R C base h b off cc N L lc lp pb st r t.2 Y w) ∧ (decIo gd o cap L).ok t.2.2 0 := by
  subst ht
  have hq := qbit_any hM hok.1 hok.2 i hi
  rw [bitI_toNat] at hq
  exact ⟨hq, (decIo gd o cap L).okBit (n := 0) (b := bb) hok (hM.fair i).1 (hM.fair i).2⟩
theorem treeGo_step (io : Io) (at_ : Nat) (v : Int) (n m : Nat) (x : io.S) {t : Bool × io.S} (ht : io.bitAt (at_ + m) (Md.bitOf v n) x = t) : Md.treeGo io at_ v (n + 1) m x = Md.treeGo io at_ v n (2 * m + t.1.toNat) t.2 := by
  subst ht; rfl
theorem revGo_step (io : Io) (at_ : Nat) (v : Int) (n i m g : Nat) (x : io.S) {t : Bool × io.S} (ht : io.bitAt (at_ + m) (Md.bitOf v i) x = t) : Md.revGo io at_ v (n + 1) i m g x = Md.revGo io at_ v n (i + 1) (2 * m + t.1.toNat) (g + t.1.toNat * 2 ^ i) t.2 := by
  subst ht; rfl
set_option maxRecDepth 100000 in
set_option maxHeartbeats 1000000 in
theorem qtree_any {gd o cap R C base h b off cc N : Nat} {L : List UInt8} {lc lp pb st : Int} {r : R4} {y : PD} {Y : List Nat} {w : World} (hM : RD w R C base h b off cc N L lc lp pb st r y Y) (hok : (decIo gd o cap L).ok y.2 0) {n at_ : Nat} (hn : n ≤ 8) (hat : at_ + 2 ^ n ≤ N) (hN : N ≤ 1000000) (v : Int) {z : Nat × PD} (hz : Md.tree (decIo gd o cap L) at_ n v y = z) :
    Calls Try.prog 75 #[PF R, .int .i64 (at_ : Nat), .int .i64 (n : Nat)] w (MAnd ((decIo gd o cap L).ok z.2.2 0 ∧ z.1 < 2 ^ n) (QDone (.int .i64 (z.1 : Nat)) R C base h b off cc N L lc lp pb st r z.2 Y w)) := by
  obtain ⟨Q, hQ⟩ : ∃ Q, ((decIo gd o cap L).ok z.2.2 0 ∧ z.1 < 2 ^ n) = Q := ⟨_, rfl⟩
  rw [hQ]
  have HQ := Lib.hid hQ
  obtain ⟨⟨m1, z2⟩, hgo⟩ : ∃ t, Md.treeGo (decIo gd o cap L) at_ v n 1 y = t := ⟨_, rfl⟩
  have hz2 : z = (m1 - 2 ^ n, z2) := by rw [← hz]; unfold Md.tree; rw [hgo]
  have HZ := Lib.hid hz2
  have HGO := Lib.hid hgo
  have hni : (n : Int) ≤ 8 := by omega
  have HAT := Lib.hid hat
  have hati : (at_ : Int) ≤ 1000000 := by have := Nat.one_le_two_pow (n := n); omega
  have HMM := Lib.hid hM
  have HOK0 := Lib.hid hok
  have HTWO := Lib.hid (fun W => two_any n (by omega) W)
  have hp8 : 2 ^ n ≤ 2 ^ 8 := Nat.pow_le_pow_right (by omega) hn
  clear hQ hat hz hM hok hgo hz2
  go_enter Try.func75, Try.ntmps75
  go_wp2_with fail
  go_loopw [7, 8] (fun ms i wr => ∃ (j m : Nat) (y' : PD), j ≤ n ∧ ms = .int .i64 (m : Nat) ∧ i = .int .i64 ((n : Int) - (j : Int)) ∧ 2 ^ (n - j) ≤ m ∧ m < 2 ^ (n - j) * 2 ∧ Hid ((decIo gd o cap L).ok y'.2 0) ∧ Hid (Md.treeGo (decIo gd o cap L) at_ v j m y' = (m1, z2)) ∧ Hid (RD wr R C base h b off cc N L lc lp pb st r y' Y ∧ Only Y w wr)) (fun _ i _ => n - (intOf i).toNat)
  case atStart => exact ⟨n, 1, y, Nat.le_refl _, rfl, by go_num, by simp, by simp, HOK0, HGO, Lib.hid ⟨HMM.out, Only.refl _ _⟩⟩
  case round =>
    obtain ⟨j, m, y', hj, rfl, rfl, hm1, hm2, HOK, HT, HM⟩ := hrel
    cases j with
    | zero =>
      have hlt : ¬ (n : Int) - ((0 : Nat) : Int) < (n : Int) := by omega
      have hmm : m = m1 := congrArg (fun t => t.1) HT.out
      have hyz : y' = z2 := congrArg (fun t => t.2) HT.out
      subst hmm hyz
      rw [Nat.sub_zero] at hm1 hm2
      have HM1 := Lib.hid hm1
      have HM2 := Lib.hid hm2
      obtain ⟨PW, hPW⟩ : ∃ PW, 2 ^ n = PW := ⟨_, rfl⟩
      rw [hPW] at HTWO HM1 HM2 hp8 HQ HZ
      have hmi : (m : Int) < 512 := by have := HM2.out; omega
      have hpi : (PW : Int) ≤ 256 := by omega
      have hsub : (m : Int) - (PW : Int) = ((m - PW : Nat) : Int) := by have := HM1.out; omega
      clear hm1 hm2 hPW
      go_wp2_with fail
      refine (HTWO.out wr).mono ?_
      rintro e w1 ⟨rfl, rfl⟩
      go_wp2_with fail
      go_ret
      rw [HZ.out] at HQ ⊢
      refine ⟨⟨by first | rfl | rw [hsub], HM.out.1, HM.out.2⟩, ?_⟩
      rw [← HQ.out]
      exact ⟨HOK.out, by show m - PW < PW; have := HM2.out; have := HM1.out; omega⟩
    | succ j =>
      have hml : m < 2 ^ n := by
        have e : 2 ^ (n - (j + 1)) * 2 = 2 ^ (n - j) := by rw [← Nat.pow_succ]; congr 1; omega
        have : 2 ^ (n - j) ≤ 2 ^ n := Nat.pow_le_pow_right (by omega) (by omega)
        omega
      have hlt : (n : Int) - ((j + 1 : Nat) : Int) < (n : Int) := by omega
      obtain ⟨⟨tb, ty⟩, hy⟩ : ∃ t, (decIo gd o cap L).bitAt (at_ + m) (Md.bitOf v j) y' = t := ⟨_, rfl⟩
      obtain ⟨hb, okb⟩ := qbit_is HM.out.1 HOK.out (i := at_ + m) (by have := HAT.out; omega) (Md.bitOf v j) hy
      have HT2 : Hid (Md.treeGo (decIo gd o cap L) at_ v j (2 * m + tb.toNat) ty = (m1, z2)) := Lib.hid ((treeGo_step (decIo gd o cap L) at_ v j m y' hy).symm.trans HT.out)
      have hB1 : tb.toNat ≤ 1 := by cases tb <;> decide
      obtain ⟨B, hB⟩ : ∃ B, tb.toNat = B := ⟨_, rfl⟩
      simp only at hb okb
      rw [hB] at hb HT2 hB1
      have HBIT := Lib.hid hb
      have HOK2 := Lib.hid okb
      have HM1 := Lib.hid hm1
      have HM2 := Lib.hid hm2
      have hmi : (m : Int) < 256 := by omega
      have hBi : (B : Int) ≤ 1 := by omega
      obtain ⟨ai, hai⟩ : ∃ ai, at_ + m = ai := ⟨_, rfl⟩
      have haii : (at_ : Int) + (m : Int) = (ai : Int) := by omega
      rw [hai] at HBIT
      clear hb okb hm1 hm2 hy hB hai hml
      go_wp2_with fail
      refine HBIT.out.mono ?_
      rintro e w2 ⟨rfl, hM2, hon2⟩
      have HW := Lib.hid (And.intro hM2 (HM.out.2.same hon2))
      clear hM2 hon2
      go_wp2_with fail
      have e2 : 2 ^ (n - j) = 2 ^ (n - (j + 1)) * 2 := by rw [← Nat.pow_succ]; congr 1; omega
      exact ⟨⟨j, 2 * m + B, ty, by omega, by go_num, by go_num, by have := HM1.out; omega, by have := HM2.out; omega, HOK2, HT2, HW⟩, by simp [intOf]; omega⟩
set_option maxRecDepth 100000 in
set_option maxHeartbeats 1000000 in
theorem qturned_any {gd o cap R C base h b off cc N : Nat} {L : List UInt8} {lc lp pb st : Int} {r : R4} {y : PD} {Y : List Nat} {w : World} (hM : RD w R C base h b off cc N L lc lp pb st r y Y) (hok : (decIo gd o cap L).ok y.2 0) {n at_ : Nat} (hn : n ≤ 8) (hat : at_ + 2 ^ n ≤ N) (hN : N ≤ 1000000) (v : Int) {z : Nat × PD} (hz : Md.rev (decIo gd o cap L) at_ n v y = z) :
    Calls Try.prog 78 #[PF R, .int .i64 (at_ : Nat), .int .i64 (n : Nat)] w (MAnd ((decIo gd o cap L).ok z.2.2 0 ∧ z.1 < 2 ^ n) (QDone (.int .i64 (z.1 : Nat)) R C base h b off cc N L lc lp pb st r z.2 Y w)) := by
  obtain ⟨Q, hQ⟩ : ∃ Q, ((decIo gd o cap L).ok z.2.2 0 ∧ z.1 < 2 ^ n) = Q := ⟨_, rfl⟩
  rw [hQ]
  have HQ := Lib.hid hQ
  have HGO : Hid (Md.revGo (decIo gd o cap L) at_ v n 0 1 0 y = z) := Lib.hid hz
  have hni : (n : Int) ≤ 8 := by omega
  have HAT := Lib.hid hat
  have hati : (at_ : Int) ≤ 1000000 := by have := Nat.one_le_two_pow (n := n); omega
  have HMM := Lib.hid hM
  have HOK0 := Lib.hid hok
  have hp8 : 2 ^ n ≤ 2 ^ 8 := Nat.pow_le_pow_right (by omega) hn
  clear hQ hat hz hM hok
  go_enter Try.func78, Try.ntmps78
  go_wp2_with fail
  go_loopw [7, 8, 9] (fun ms vs i wr => ∃ (ix m q : Nat) (y' : PD), ix ≤ n ∧ ms = .int .i64 (m : Nat) ∧ vs = .int .i64 (q : Nat) ∧ i = .int .i64 (ix : Nat) ∧ 2 ^ ix ≤ m ∧ m < 2 ^ ix * 2 ∧ q < 2 ^ ix ∧ Hid ((decIo gd o cap L).ok y'.2 0) ∧ Hid (Md.revGo (decIo gd o cap L) at_ v (n - ix) ix m q y' = z) ∧ Hid (RD wr R C base h b off cc N L lc lp pb st r y' Y ∧ Only Y w wr)) (fun _ _ i _ => n - (intOf i).toNat)
  case atStart => exact ⟨0, 1, 0, y, Nat.zero_le _, rfl, rfl, rfl, by simp, by simp, by simp, HOK0, HGO, Lib.hid ⟨HMM.out, Only.refl _ _⟩⟩
  case round =>
    obtain ⟨ix, m, q, y', hj, rfl, rfl, rfl, hm1, hm2, hq, HOK, HT, HM⟩ := hrel
    by_cases hlt : ix < n
    · obtain ⟨j, hj'⟩ : ∃ j, n - ix = j + 1 := ⟨n - ix - 1, by omega⟩
      have hT0 := HT.out
      rw [hj'] at hT0
      have hlti : (ix : Int) < (n : Int) := by omega
      have e2 : 2 ^ (ix + 1) = 2 ^ ix * 2 := Nat.pow_succ ..
      have hpl : 2 ^ (ix + 1) ≤ 2 ^ n := Nat.pow_le_pow_right (by omega) (by omega)
      have hml : m < 2 ^ n := by omega
      obtain ⟨⟨tb, ty⟩, hy⟩ : ∃ t, (decIo gd o cap L).bitAt (at_ + m) (Md.bitOf v ix) y' = t := ⟨_, rfl⟩
      obtain ⟨hb, okb⟩ := qbit_is HM.out.1 HOK.out (i := at_ + m) (by have := HAT.out; omega) (Md.bitOf v ix) hy
      have HTWO := Lib.hid (fun W => two_any ix (by omega) W)
      have hT2 := (revGo_step (decIo gd o cap L) at_ v j ix m q y' hy).symm.trans hT0
      rw [show j = n - (ix + 1) by omega] at hT2
      have hB1 : tb.toNat ≤ 1 := by cases tb <;> decide
      obtain ⟨B, hB⟩ : ∃ B, tb.toNat = B := ⟨_, rfl⟩
      simp only at hb okb hT2
      rw [hB] at hb hT2 hB1
      have HBIT := Lib.hid hb
      have HOK2 := Lib.hid okb
      obtain ⟨PW, hPW⟩ : ∃ PW, 2 ^ ix = PW := ⟨_, rfl⟩
      rw [hPW] at HTWO hT2 hm1 hm2 hq e2
      have hPi : (PW : Int) ≤ 256 := by omega
      have hmi : (m : Int) < 256 := by omega
      have hqi : (q : Int) < 256 := by omega
      have hBi : (B : Int) ≤ 1 := by omega
      have hBP : (B : Int) * (PW : Int) = ((B * PW : Nat) : Int) := by rw [Int.natCast_mul]
      have hBPl : B * PW ≤ PW := by
        have h0 : B = 0 ∨ B = 1 := by omega
        rcases h0 with rfl | rfl <;> omega
      obtain ⟨BP, hBPe⟩ : ∃ BP, B * PW = BP := ⟨_, rfl⟩
      rw [hBPe] at hBP hBPl hT2
      have HT2 := Lib.hid hT2
      have hBPi : (BP : Int) ≤ 256 := by omega
      obtain ⟨ai, hai⟩ : ∃ ai, at_ + m = ai := ⟨_, rfl⟩
      have haii : (at_ : Int) + (m : Int) = (ai : Int) := by omega
      rw [hai] at HBIT
      have HE2 := Lib.hid e2
      have HM1 := Lib.hid hm1
      have HM2 := Lib.hid hm2
      have HQ1 := Lib.hid hq
      have HBPL := Lib.hid hBPl
      clear hb okb hm1 hm2 hy hB hai hml hPW hBPe hq hBPl e2 hpl hT2 hT0 hj'
      go_wp2_with fail
      refine HBIT.out.mono ?_
      rintro e w2 ⟨rfl, hM2, hon2⟩
      have HW := Lib.hid (And.intro hM2 (HM.out.2.same hon2))
      clear hM2 hon2
      go_wp2_with fail
      refine (HTWO.out w2).mono ?_
      rintro e w3 ⟨rfl, rfl⟩
      go_wp2_with fail
      exact ⟨⟨ix + 1, 2 * m + B, q + BP, ty, by omega, by go_num, by go_num, by go_num, by have := HM1.out; have := HE2.out; omega, by have := HM2.out; have := HE2.out; omega, by have := HQ1.out; have := HE2.out; have := HBPL.out; omega, HOK2, HT2, HW⟩, by simp [intOf]; omega⟩
    · obtain rfl : ix = n := by omega
      have hlti : ¬ (ix : Int) < (ix : Int) := by omega
      have hT0 := HT.out
      rw [Nat.sub_self] at hT0
      have hqq : q = z.1 := congrArg (fun t => t.1) hT0
      have hyz : y' = z.2 := congrArg (fun t => t.2) hT0
      have HQL := Lib.hid hq
      have HQQ := Lib.hid hqq
      have HYZ := Lib.hid hyz
      clear hm1 hm2 hq hqq hyz hT0
      go_wp2_with fail
      go_ret
      have hm := HM.out
      have ho := HOK.out
      rw [HYZ.out] at hm ho
      refine ⟨⟨by rw [← HQQ.out]; rfl, hm.1, hm.2⟩, ?_⟩
      rw [← HQ.out]
      exact ⟨ho, by rw [← HQQ.out]; exact HQL.out⟩
end Go.Proofs.Ytkckjjchfccdjaa

/- The numbers of the reference's chances, for its Reader. -/
namespace Go.Proofs.Ytkckjjchfccdjaa
set_option maxRecDepth 100000
open Go.RowKit

section
variable {R C base h b off cc N : Nat} {L : List UInt8} {lc lp pb st : Nat} {r : R4} {y : PD} {Y : List Nat} {w : World}
theorem RD.heads (hM : RD w R C base h b off cc N L (lc : Nat) (lp : Nat) (pb : Nat) (st : Nat) r y Y) : w.cell? ⟨C, 0, none⟩ = some (.int .i64 (lc : Nat)) ∧ w.cell? ⟨C, 1, none⟩ = some (.int .i64 (lp : Nat)) ∧ w.cell? ⟨C, 2, none⟩ = some (.int .i64 (pb : Nat)) ∧ w.cell? ⟨C, 3, none⟩ = some (.int .i64 (st : Nat)) := by
  obtain ⟨Pl, vR, gR, gP, capP, hC, _⟩ := hM.ex
  refine ⟨?_, ?_, ?_, ?_⟩ <;> (rw [cell_of_row w _ _ _ _ _ hC.box]; rfl)
theorem rmatch_any (hM : RD w R C base h b off cc N L (lc : Nat) (lp : Nat) (pb : Nat) (st : Nat) r y Y) (hst : st < 12) (p : Nat) (hp : p < 16) : Calls Try.prog 55 #[PF C, .int .i64 (p : Nat)] w fun e w' => e = .returned (.int .i64 ((16 * st + p : Nat) : Int)) ∧ w = w' := by
  obtain ⟨_, _, _, c3⟩ := hM.heads
  have hsti : (st : Int) < 12 := by omega
  have hpi : (p : Int) < 16 := by omega
  clear hM
  go_enter Try.func55, Try.ntmps55
  go_wp2_with fail
  go_ret
  exact ⟨by go_num, rfl⟩
theorem rrep_any (hM : RD w R C base h b off cc N L (lc : Nat) (lp : Nat) (pb : Nat) (st : Nat) r y Y) (hst : st < 12) : Calls Try.prog 57 #[PF C] w fun e w' => e = .returned (.int .i64 ((192 + st : Nat) : Int)) ∧ w = w' := by
  obtain ⟨_, _, _, c3⟩ := hM.heads
  have hsti : (st : Int) < 12 := by omega
  clear hM
  go_enter Try.func57, Try.ntmps57
  go_wp2_with fail
  go_ret
  exact ⟨by go_num, rfl⟩
theorem rwhich_any (hM : RD w R C base h b off cc N L (lc : Nat) (lp : Nat) (pb : Nat) (st : Nat) r y Y) (hst : st < 12) (n : Nat) (hn : n ≤ 2) : Calls Try.prog 82 #[PF C, .int .i64 (n : Nat)] w fun e w' => e = .returned (.int .i64 ((204 + 12 * n + st : Nat) : Int)) ∧ w = w' := by
  obtain ⟨_, _, _, c3⟩ := hM.heads
  have hsti : (st : Int) < 12 := by omega
  have hni : (n : Int) ≤ 2 := by omega
  clear hM
  go_enter Try.func82, Try.ntmps82
  go_wp2_with fail
  go_ret
  exact ⟨by go_num, rfl⟩
theorem rlong_any (hM : RD w R C base h b off cc N L (lc : Nat) (lp : Nat) (pb : Nat) (st : Nat) r y Y) (hst : st < 12) (p : Nat) (hp : p < 16) : Calls Try.prog 62 #[PF C, .int .i64 (p : Nat)] w fun e w' => e = .returned (.int .i64 ((240 + 16 * st + p : Nat) : Int)) ∧ w = w' := by
  obtain ⟨_, _, _, c3⟩ := hM.heads
  have hsti : (st : Int) < 12 := by omega
  have hpi : (p : Int) < 16 := by omega
  clear hM
  go_enter Try.func62, Try.ntmps62
  go_wp2_with fail
  go_ret
  exact ⟨by go_num, rfl⟩
theorem rlengths_yes (w : World) : Calls Try.prog 59 #[.bool true] w fun e w' => e = .returned (.int .i64 946) ∧ w = w' := by
  go_enter Try.func59, Try.ntmps59
  go_wp2_with fail
  go_ret
  exact ⟨rfl, rfl⟩
theorem rlengths_no (w : World) : Calls Try.prog 59 #[.bool false] w fun e w' => e = .returned (.int .i64 432) ∧ w = w' := by
  go_enter Try.func59, Try.ntmps59
  go_wp2_with fail
  go_ret
  exact ⟨rfl, rfl⟩
theorem rslots_any (l : Nat) (h2 : 2 ≤ l) (h3 : l ≤ 300) (w : World) : Calls Try.prog 77 #[.int .i64 (l : Nat)] w fun e w' => e = .returned (.int .i64 ((1460 + 64 * min (l - 2) 3 : Nat) : Int)) ∧ w = w' := by
  have hli : (l : Int) ≤ 300 := by omega
  have hl2 : (2 : Int) ≤ (l : Int) := by omega
  by_cases hk : 3 < (l : Int) - 2
  · have hK : Hid (min (l - 2) 3 = 3) := Lib.hid (by omega)
    rw [hK.out]
    go_enter Try.func77, Try.ntmps77
    go_wp2_with fail
    go_ret
    exact ⟨rfl, rfl⟩
  · obtain ⟨K, hK⟩ : ∃ K, min (l - 2) 3 = K := ⟨_, rfl⟩
    have hKi : (l : Int) - 2 = (K : Int) := by omega
    have hK3 : (K : Int) ≤ 3 := by omega
    rw [hK]
    clear hK hk
    have hk : ¬ (3 : Int) < (K : Int) := by omega
    go_enter Try.func77, Try.ntmps77
    go_wp2_with fail
    go_ret
    exact ⟨by go_num, rfl⟩
theorem rlow_any (s : Nat) (hs : s < 64) (w : World) : Calls Try.prog 79 #[.int .i64 (s : Nat)] w fun e w' => e = .returned (.int .i64 ((1716 + 32 * s : Nat) : Int)) ∧ w = w' := by
  have hsi : (s : Int) < 64 := by omega
  go_enter Try.func79, Try.ntmps79
  go_wp2_with fail
  go_ret
  exact ⟨by go_num, rfl⟩
theorem ralign_any (w : World) : Calls Try.prog 81 #[] w fun e w' => e = .returned (.int .i64 2164) ∧ w = w' := by
  go_enter Try.func81, Try.ntmps81
  go_wp2_with fail
  go_ret
  exact ⟨rfl, rfl⟩
theorem back_any (A : Option Addr) (H : List UInt8) (c : Nat) (a : Int) (w : World) (hB : Bytes w A H) (hc : H.length ≤ c) (hH : H.length ≤ 1000000000) (h1 : 1 ≤ a) (h2 : a ≤ 4294967296) : Calls Try.prog 76 #[.slice A H.length c, .int .i64 a] w fun e w' => e = .returned (.int .i64 (Md.likeN H a : Nat)) ∧ w = w' := by
  obtain ⟨LK, hLK⟩ : ∃ LK, Md.likeN H a = LK := ⟨_, rfl⟩
  rw [hLK]
  have hci : (H.length : Int) ≤ (c : Int) := by omega
  have hHi : (H.length : Int) ≤ 1000000000 := by omega
  unfold Md.likeN at hLK
  by_cases hb : a ≤ (H.length : Int)
  · rw [if_pos hb] at hLK
    obtain ⟨z, hz⟩ : ∃ z : Nat, (H.length : Int) - a = (z : Int) := ⟨((H.length : Int) - a).toNat, by omega⟩
    have hzl : (z : Int) < (H.length : Int) := by omega
    have hnb : ¬ (H.length : Int) < a := by omega
    obtain ⟨bb, off, rfl, _, hat⟩ := hB.addr (by omega)
    have cx := hat z (by omega)
    rw [← getD_of] at cx
    rw [show H.length - a.toNat = z by omega] at hLK
    generalize H.getD z 0 = u at *
    have HLK := Lib.hid hLK
    clear hat hLK hB
    go_enter Try.func76, Try.ntmps76
    go_wp2_with fail
    go_ret
    refine ⟨congrArg (fun n : Int => Ending.returned (Value.int .i64 n)) ?_, rfl⟩
    rw [← HLK.out]
    exact wrap64_of (by omega) (by have := u.toNat_lt; omega)
  · rw [if_neg hb] at hLK
    subst hLK
    have hnb : (H.length : Int) < a := by omega
    clear hB
    go_enter Try.func76, Try.ntmps76
    go_wp2_with fail
    go_ret
    exact ⟨rfl, rfl⟩
end
set_option maxRecDepth 100000 in
set_option maxHeartbeats 1000000 in
theorem rtable_any {R C base h b off cc N lc lp pb st : Nat} {L : List UInt8} {r : R4} {y : PD} {Y : List Nat} {w : World} (hM : RD w R C base h b off cc N L (lc : Nat) (lp : Nat) (pb : Nat) (st : Nat) r y Y) (hlc : lc ≤ 4) (hlp : lp ≤ 4) (A : Option Addr) (H : List UInt8) (c : Nat) (hB : Bytes w A H) (hc : H.length ≤ c) (hH : H.length ≤ 1000000000) :
    Calls Try.prog 74 #[PF C, .slice A H.length c] w (Tells (.int .i64 ((2180 + 768 * ctxN lc lp H : Nat) : Int)) w) := by
  obtain ⟨c0, c1, _, _⟩ := hM.heads
  have hHi : (H.length : Int) ≤ 1000000000 := by omega
  have HT1 := Lib.hid (two_any lp (by omega) w)
  have HQ1 := Lib.hid (fun (n : Nat) => show Calls Try.prog 41 #[.int .i64 (lc : Nat)] (w.drewN n) fun e w'' => e = .returned (.int .i64 (2 ^ lc : Nat)) ∧ ∃ m, w'' = w.drewN m from (two_any lc (by omega) (w.drewN n)).mono fun e w' h => ⟨h.1, n, h.2.symm⟩)
  have HQ2 := Lib.hid (fun (n : Nat) => show Calls Try.prog 41 #[.int .i64 ((8 - lc : Nat) : Int)] (w.drewN n) fun e w'' => e = .returned (.int .i64 (2 ^ (8 - lc) : Nat)) ∧ ∃ m, w'' = w.drewN m from (two_any (8 - lc) (by omega) (w.drewN n)).mono fun e w' h => ⟨h.1, n, h.2.symm⟩)
  have HQ3 := Lib.hid (fun (n : Nat) => show Calls Try.prog 76 #[.slice A H.length c, .int .i64 1] (w.drewN n) fun e w'' => e = .returned (.int .i64 (Md.likeN H 1 : Nat)) ∧ ∃ m, w'' = w.drewN m from (back_any A H c 1 (w.drewN n) (hB.drewN n) hc hH (by omega) (by omega)).mono fun e w' h => ⟨h.1, n, h.2.symm⟩)
  have hwr : IntKind.i64.wrap (8 - (lc : Int)) = ((8 - lc : Nat) : Int) := by rw [IntKind.wrap_i64]; omega
  have hlk : Md.likeN H 1 < 256 := Md.likeN_lt H 1
  have hctx : ctxN lc lp H = H.length % 2 ^ lp * 2 ^ lc + Md.likeN H 1 / 2 ^ (8 - lc) := by
    unfold ctxN Md.likeN
    by_cases h0 : 0 < H.length
    · rw [if_pos h0, if_pos (by omega)]; rfl
    · rw [if_neg h0, if_neg (by omega)]
  have hck := ctxN_lt (lp := lp) H (show lc ≤ 8 by omega)
  obtain ⟨K, hK⟩ : ∃ K, ctxN lc lp H = K := ⟨_, rfl⟩
  rw [hK] at hctx hck ⊢
  obtain ⟨LK, hLK⟩ : ∃ LK, Md.likeN H 1 = LK := ⟨_, rfl⟩
  rw [hLK] at hctx hlk HQ3
  have h1 : 1 ≤ 2 ^ lp := Nat.one_le_two_pow
  have h2 : 2 ^ lp ≤ 2 ^ 4 := Nat.pow_le_pow_right (by omega) hlp
  have h3 : 2 ^ lc ≤ 2 ^ 4 := Nat.pow_le_pow_right (by omega) hlc
  have h4 : 1 ≤ 2 ^ lc := Nat.one_le_two_pow
  have h5 : 1 ≤ 2 ^ (8 - lc) := Nat.one_le_two_pow
  have h6 : 2 ^ (8 - lc) ≤ 2 ^ 8 := Nat.pow_le_pow_right (by omega) (by omega)
  have h7 : 2 ^ (lc + lp) ≤ 2 ^ 8 := Nat.pow_le_pow_right (by omega) (by omega)
  obtain ⟨P1, hP1⟩ : ∃ P, 2 ^ lp = P := ⟨_, rfl⟩
  obtain ⟨P2, hP2⟩ : ∃ P, 2 ^ lc = P := ⟨_, rfl⟩
  obtain ⟨P3, hP3⟩ : ∃ P, 2 ^ (8 - lc) = P := ⟨_, rfl⟩
  rw [hP1] at HT1 hctx h1 h2
  rw [hP2] at HQ1 hctx h3 h4
  rw [hP3] at HQ2 hctx h5 h6
  obtain ⟨A1, hA1⟩ : ∃ A1, H.length % P1 = A1 := ⟨_, rfl⟩
  have hA1l : A1 < P1 := by rw [← hA1]; exact Nat.mod_lt _ h1
  have htm : ((H.length : Nat) : Int).tmod ((P1 : Nat) : Int) = (A1 : Int) := by rw [Int.tmod_eq_emod_of_nonneg (by omega), ← hA1]; omega
  have hp1 : ((P1 : Nat) : Int) ≠ 0 := by omega
  have hp3 : ((P3 : Nat) : Int) ≠ 0 := by omega
  rw [hA1] at hctx
  have hK256 : K < 256 := by omega
  have HC := Lib.hid (And.intro hctx (And.intro hlk (And.intro hK256 (And.intro hA1l (And.intro h2 (And.intro h3 h5))))))
  clear hM hB hctx hlk hck hK hLK h1 h2 h3 h4 h5 h6 h7 hP1 hP2 hP3 hA1 hA1l hK256
  go_enter Try.func74, Try.ntmps74
  go_wp2_with fail
  refine HT1.out.mono ?_
  rintro e w1 ⟨rfl, rfl⟩
  go_upto_region 2 with fail
  go_quiet (first | with_reducible exact HQ1.out _ | with_reducible exact HQ2.out _ | with_reducible exact HQ3.out _)
  go_wp2_with fail
  go_ret
  refine ⟨?_, below_drewN (Below.refl _ _) _⟩
  refine congrArg (fun n : Int => Ending.returned (Value.int .i64 n)) ?_
  obtain ⟨g1, g2, g3, g4, g5, g6, g7⟩ := HC.out
  have e1 : (A1 : Int) * (P2 : Int) = ((A1 * P2 : Nat) : Int) := by simp
  have e2 : (LK : Int) / (P3 : Int) = ((LK / P3 : Nat) : Int) := by simp
  have h1 : A1 * P2 ≤ 16 * 16 := Nat.mul_le_mul (by omega) (by omega)
  have h2 : LK / P3 ≤ LK := Nat.div_le_self _ _
  rw [e1, e2, wrap64_in _ (by omega : A1 * P2 < 4294967296), wrap64_in _ (by omega : LK / P3 < 4294967296)]
  rw [show ((A1 * P2 : Nat) : Int) + ((LK / P3 : Nat) : Int) = (K : Int) by omega, wrap64_in _ (by omega : K < 4294967296)]
  rw [show (768 : Int) * (K : Int) = ((768 * K : Nat) : Int) by omega, wrap64_in _ (by omega)]
  rw [show (2180 : Int) + ((768 * K : Nat) : Int) = ((2180 + 768 * K : Nat) : Int) by omega, wrap64_in _ (by omega)]
end Go.Proofs.Ytkckjjchfccdjaa
