/- The reference's literals. -/
import Derived.Test.YtiodlhieaajcgaaReDist
namespace Go.Proofs.Ytiodlhieaajcgaa
open Go.RowKit

theorem litGo_false (io : Io) (T like : Nat) (v : Int) : ∀ n m (x : io.S), Md.litGo io T like v n m false x = Md.treeGo io T v n m x
  | 0, m, x => rfl
  | n + 1, m, x => by
    unfold Md.litGo Md.treeGo
    simp only [Bool.false_eq_true, if_false, Bool.false_and]
    exact litGo_false io T like v n _ _
theorem litGo_enc (g T like v : Nat) : ∀ n m al (x : (encIo g).S), (Md.litGo (encIo g) T like (v : Nat) n m al x).1 = m * 2 ^ n + v % 2 ^ n
  | 0, m, al, x => by unfold Md.litGo; simp; omega
  | n + 1, m, al, x => by
    unfold Md.litGo
    rw [litGo_enc g T like v n]
    have e : ∀ i (x : (encIo g).S), ((encIo g).bitAt i (Md.bitOf (v : Nat) n) x).1 = Md.bitOf (v : Nat) n := fun _ _ => rfl
    rw [e, bit_toNat, Nat.mod_pow_succ, Nat.pow_succ, Nat.add_mul]
    generalize v / 2 ^ n % 2 = B
    rw [Nat.mul_comm 2 m, Nat.mul_assoc, Nat.mul_comm 2 (2 ^ n), Nat.mul_comm B]
    omega
theorem lit_enc (g lc lp st : Nat) (a : Int) (H : List UInt8) (b : UInt8) (x : (encIo g).S) : (Md.lit (encIo g) lc lp st a H (b.toNat : Nat) x).1 = b := by
  unfold Md.lit
  simp only
  rw [litGo_enc]
  have hb := b.toNat_lt
  apply UInt8.toNat_inj.1
  rw [UInt8.toNat_ofNat']
  omega
theorem RE.rep0 {C base h N : Nat} {lc lp pb st : Int} {r : R4} {x : (Nat → Nat) × Rc.St} {Y : List Nat} {w : World} (hM : RE w C base h N lc lp pb st r x Y) : ∃ gR cap, w.cell? ⟨C, 4, none⟩ = some (.slice (some ⟨gR, 0, none⟩) 4 cap) ∧ 4 ≤ cap ∧ cap ≤ 9223372036854775807 ∧ w.cell? ⟨gR, 0, none⟩ = some (.int .i64 r.1) := by
  obtain ⟨Pl, vR, gR, gP, capP, o, cap, hC, _⟩ := hM.ex
  obtain ⟨_, c4, _, _, g, cap', rfl, h4, hm, h0, _⟩ := hC.cells
  exact ⟨g, cap', c4, h4, hm, h0⟩
theorem div_step {v L j : Nat} : decide (v / 2 ^ j = L / 2 ^ j) = (decide (v / 2 ^ (j + 1) = L / 2 ^ (j + 1)) && (v / 2 ^ j % 2 == L / 2 ^ j % 2)) := by
  have e1 : v / 2 ^ (j + 1) = v / 2 ^ j / 2 := by rw [Nat.div_div_eq_div_mul, ← Nat.pow_succ]
  have e2 : L / 2 ^ (j + 1) = L / 2 ^ j / 2 := by rw [Nat.div_div_eq_div_mul, ← Nat.pow_succ]
  rw [e1, e2, Bool.eq_iff_iff]
  generalize v / 2 ^ j = a
  generalize L / 2 ^ j = b
  simp
  omega
theorem wentR_undrew {C base h N : Nat} {lc lp pb st : Int} {r : R4} {x : (Nat → Nat) × Rc.St} {Y : List Nat} {w w' : World} {n : Nat} (hw : WentR C base h N lc lp pb st r x Y (w.drewN n) w') : WentR C base h N lc lp pb st r x Y w w' := by
  obtain ⟨Y', hM, hon, hY⟩ := hw
  exact ⟨Y', hM, Only.undrewN hon, hY⟩
theorem RE.drewN {C base h N : Nat} {lc lp pb st : Int} {r : R4} {x : (Nat → Nat) × Rc.St} {Y : List Nat} {w : World} (hM : RE w C base h N lc lp pb st r x Y) (n : Nat) : RE (w.drewN n) C base h N lc lp pb st r x Y := by
  obtain ⟨Pl, vR, gR, gP, capP, o, cap, hC, hgR, hE, hPl, hP, hY⟩ := hM.ex
  exact ⟨⟨Pl, vR, gR, gP, capP, o, cap, ⟨hC.box, hC.reps, hC.ps⟩, hgR, ⟨hE.blk, hE.own, hE.ne⟩, hPl, hP, hY⟩, hM.fair⟩
set_option maxRecDepth 100000 in
set_option maxHeartbeats 4000000 in
theorem relit_any {g C base h N lc lp pb st : Nat} {r : R4} {x : (encIo g).S} {Y : List Nat} {w : World} (hM : RE w C base h N (lc : Nat) (lp : Nat) (pb : Nat) (st : Nat) r x Y) (hlc : lc ≤ 4) (hlp : lp ≤ 4) (hst : st < 12) (hr1 : 1 ≤ r.1) (hr2 : r.1 ≤ 4294967296) {k : Nat} (hok : (encIo g).ok x.2 (k + 20)) (A : Option Addr) (H : List UInt8) (c : Nat) (hB : Bytes w A H) (hc : H.length ≤ c) (hH : H.length ≤ 1000000000)
    (hN : N = 2180 + 768 * 2 ^ (lc + lp)) (hN2 : N ≤ 1000000) (b : UInt8) {z : (encIo g).S} (hz : (Md.lit (encIo g) lc lp st r.1 H (b.toNat : Nat) x).2 = z) :
    Calls Try.prog 31 #[PF C, PF h, .slice A H.length c, .int .i64 (b.toNat : Nat)] w (MAnd ((encIo g).ok z.2 k) (RDone (.tuple #[]) C base h N (lc : Nat) (lp : Nat) (pb : Nat) (st : Nat) r z Y w)) := by
  obtain ⟨Q, hQ⟩ : ∃ Q, ((encIo g).ok z.2 k) = Q := ⟨_, rfl⟩
  rw [hQ]
  have HQ := Lib.hid hQ
  obtain ⟨v, hv⟩ : ∃ v, b.toNat = v := ⟨_, rfl⟩
  have hv256 : v < 256 := by rw [← hv]; exact b.toNat_lt
  rw [hv] at hz ⊢
  have HTB := Lib.hid (rtable_any hM hlc hlp A H c hB hc hH)
  have hck := ctxN_lt (lp := lp) H (show lc ≤ 8 by omega)
  unfold Md.lit at hz
  obtain ⟨K, hK⟩ : ∃ K, ctxN lc lp H = K := ⟨_, rfl⟩
  rw [hK] at HTB hck
  simp only [hK] at hz
  obtain ⟨T, hT⟩ : ∃ T, 2180 + 768 * K = T := ⟨_, rfl⟩
  rw [hT] at HTB hz
  have hTN : T + 768 ≤ N := by omega
  have HTN := Lib.hid hTN
  have hTi : (T : Int) ≤ 1000000 := by omega
  have hsti : (st : Int) < 12 := by omega
  have hvi : (v : Int) < 256 := by omega
  obtain ⟨LK, hLK⟩ : ∃ LK, Md.likeN H r.1 = LK := ⟨_, rfl⟩
  have hLK256 : LK < 256 := by rw [← hLK]; exact Md.likeN_lt H r.1
  simp only [hLK] at hz
  have HBK := Lib.hid (fun (w1 : World) (hb : Below w.heap.size w w1) => back_any A H c r.1 w1 (hB.below hb) hc hH hr1 hr2)
  rw [hLK] at HBK
  have HLT : Hid (∀ i ∈ Y, i < w.heap.size) := Lib.hid (by
    obtain ⟨Pl, vR, gR, gP, capP, o, cap, hC, hgR, hE, hPl, hP, rfl⟩ := hM.ex
    intro i hi
    simp only [List.mem_cons, List.not_mem_nil, or_false] at hi
    rcases hi with rfl | rfl | rfl | rfl | rfl
    · exact hC.lt
    · exact (hC.reps.lt _ hgR).2
    · exact (hC.ps.lt _ rfl).2
    · exact (Array.getElem?_eq_some_iff.1 hE.blk).1
    · obtain ⟨cs, hcs⟩ := hE.row
      exact (Array.getElem?_eq_some_iff.1 hcs).1)
  have HKEEP : Hid (∀ w1, Below w.heap.size w w1 → RE w1 C base h N (lc : Nat) (lp : Nat) (pb : Nat) (st : Nat) r x Y) := Lib.hid (fun w1 hb => by
    obtain ⟨Pl, vR, gR, gP, capP, o, cap, hC, hgR, hE, hPl, hP, hY⟩ := hM.ex
    obtain ⟨cs, hcs⟩ := hE.row
    exact ⟨⟨Pl, vR, gR, gP, capP, o, cap, hC.below hb, hgR, hE.keep2 (hb.block _ (Array.getElem?_eq_some_iff.1 hE.blk).1) (hb.block _ (Array.getElem?_eq_some_iff.1 hcs).1), hPl, hP, hY⟩, hM.fair⟩)
  have HOK := Lib.hid hok
  clear hQ hM hok hB hK hck hT hLK hTN hN
  by_cases h7 : st < 7
  · have h7b : decide ((st : Int) < 7) = true := decide_eq_true (by omega)
    rw [show decide (7 ≤ st) = false from decide_eq_false (by omega), litGo_false] at hz
    have HZ := Lib.hid hz
    clear hz h7
    go_enter Try.func31, Try.ntmps31
    go_wp2_with fail
    refine HTB.out.mono ?_
    rintro e w1 ⟨rfl, hb1⟩
    have hM1 := HKEEP.out w1 hb1
    obtain ⟨_, _, _, c3⟩ := hM1.heads
    have HC := Lib.hid (retree_any hM1 (n := 8) (k := k + 9) HOK.out (at_ := T) (by omega) (by have := HTN.out; omega) hN2 v (by omega) HZ.out)
    have HB1 := Lib.hid hb1
    clear hM1 hb1
    go_wp2_with fail
    refine HC.out.mono ?_
    rintro e w2 ⟨⟨rfl, Y2, hM2, hon2, hY2⟩, ok2⟩
    go_wp2_with fail
    refine bodyPost_ret_by (results_none rfl _ _ _) rfl ?_
    exact ⟨⟨rfl, Y2, hM2, (Only.of_below HB1.out).trans hon2 (fun i hi => .inl hi), fun i hi => by rcases hY2 i hi with h | h; exact .inl h; exact .inr (Nat.le_trans HB1.out.size h)⟩, by rw [← HQ.out]; exact (encIo g).le ok2 (by omega)⟩
  · have h7b : decide ((st : Int) < 7) = false := decide_eq_false (by omega)
    rw [show decide (7 ≤ st) = true from decide_eq_true (by omega)] at hz
    have HZ : Hid ((Md.litGo (encIo g) T LK (v : Nat) 8 1 (decide (v / 2 ^ 8 = LK / 2 ^ 8)) x).2 = z) := Lib.hid (by
      rw [show decide (v / 2 ^ 8 = LK / 2 ^ 8) = true from decide_eq_true (by omega)]; exact hz)
    clear hz h7
    go_enter Try.func31, Try.ntmps31
    go_wp2_with fail
    refine HTB.out.mono ?_
    rintro e w1 ⟨rfl, hb1⟩
    have hM1 := HKEEP.out w1 hb1
    obtain ⟨_, _, _, c3⟩ := hM1.heads
    obtain ⟨gR, capR, c4, hcr4, hcrm, cr0⟩ := hM1.rep0
    have hcr4i : (4 : Int) ≤ (capR : Int) := by omega
    have HM1 := Lib.hid hM1
    have HBK1 := Lib.hid (HBK.out w1 hb1)
    have HB1 := Lib.hid hb1
    clear hM1 hb1 hcr4 hcrm
    go_wp2_with fail
    refine HBK1.out.mono ?_
    rintro e w2 ⟨rfl, rfl⟩
    go_wp2_with fail
    clear c3 c4 cr0 hcr4i
    go_loopw [10, 11] (fun ms i wr => ∃ (j m : Nat) (x' : (encIo g).S) (Y' : List Nat), j ≤ 8 ∧ ms = .int .i64 (m : Nat) ∧ i = .int .i64 ((j : Int) - 1) ∧ 2 ^ (8 - j) ≤ m ∧ m < 2 ^ (8 - j) * 2 ∧ Hid ((encIo g).ok x'.2 (k + 9 + j + 3)) ∧ Hid ((Md.litGo (encIo g) T LK (v : Nat) j m (decide (v / 2 ^ j = LK / 2 ^ j)) x').2 = z) ∧ Hid (RE wr C base h N (lc : Nat) (lp : Nat) (pb : Nat) (st : Nat) r x' Y' ∧ Only Y w1 wr ∧ ∀ i ∈ Y', i ∈ Y ∨ w1.heap.size ≤ i)) (fun _ i _ => (intOf i + 1).toNat)
    case atStart => exact ⟨8, 1, x, Y, Nat.le_refl _, rfl, by go_num, by decide, by decide, HOK, HZ, Lib.hid ⟨HM1.out, Only.refl _ _, fun i hi => .inl hi⟩⟩
    case round =>
      obtain ⟨j, m, x', Y', hj, rfl, rfl, hm1, hm2, HOKJ, HT, HM⟩ := hrel
      cases j with
      | zero =>
        clear hm1 hm2
        go_wp2_with fail
        go_end0
        have hzz : x' = z := HT.out
        have ho := HOKJ.out
        rw [← hzz] at HQ ⊢
        exact ⟨⟨rfl, Y', HM.out.1, (Only.of_below HB1.out).trans HM.out.2.1 (fun i hi => .inl hi), fun i hi => by rcases HM.out.2.2 i hi with h | h; exact .inl h; exact .inr (Nat.le_trans HB1.out.size h)⟩, by rw [← HQ.out]; exact (encIo g).le ho (by omega)⟩
      | succ j =>
        have hm256 : m < 256 := by
          have e : 2 ^ (8 - (j + 1)) * 2 = 2 ^ (8 - j) := by rw [← Nat.pow_succ]; congr 1; omega
          have : 2 ^ (8 - j) ≤ 2 ^ 8 := Nat.pow_le_pow_right (by omega) (by omega)
          omega
        have hmi : (m : Int) < 256 := by omega
        have hj8 : (j : Int) < 8 := by omega
        obtain ⟨B, hB⟩ : ∃ B, v / 2 ^ j % 2 = B := ⟨_, rfl⟩
        obtain ⟨L, hL⟩ : ∃ L, LK / 2 ^ j % 2 = L := ⟨_, rfl⟩
        have hB1 : B ≤ 1 := by omega
        have hL1 : L ≤ 1 := by omega
        have hBi : (B : Int) ≤ 1 := by omega
        have hk4 : k + 9 + j + 1 + 3 = k + 9 + (j + 1) + 3 := by omega
        have haN : ∀ e, e ≤ 767 → T + e < N := fun e he => by have := HTN.out; omega
        have hidx : m + (256 + 256 * L) ≤ 767 := by omega
        have hidx2 : m ≤ 767 := by omega
        have HTWO := Lib.hid (two_any j (by omega) wr)
        obtain ⟨j1, hj1⟩ : ∃ j1, j + 1 = j1 := ⟨_, rfl⟩
        have HTWQ := Lib.hid (fun (n : Nat) => show Calls Try.prog 27 #[.int .i64 (j1 : Nat)] (wr.drewN n) fun e w'' => e = .returned (.int .i64 (2 ^ (j + 1) : Nat)) ∧ ∃ m, w'' = wr.drewN m from by rw [← hj1]; exact (two_any (j + 1) (by omega) (wr.drewN n)).mono fun e w' h => ⟨h.1, n, h.2.symm⟩)
        have hwj : IntKind.i64.wrap ((j : Int) + 1) = (j1 : Int) := by rw [IntKind.wrap_i64]; omega
        clear hj1
        have hpw : ((2 ^ j : Nat) : Int) ≠ 0 := by have := Nat.one_le_two_pow (n := j); omega
        have HDV := Lib.hid (tdiv_bit (by omega) hB)
        have HDL := Lib.hid (tdiv_bit (by omega) hL)
        have HHB := Lib.hid hB
        have HHL := Lib.hid hL
        have HPW := Lib.hid hpw
        clear hB hL hpw
        by_cases heq : v / 2 ^ (j + 1) = LK / 2 ^ (j + 1)
        · have HEQ := Lib.hid heq
          clear heq
          have hal : decide (v / 2 ^ (j + 1) = LK / 2 ^ (j + 1)) = true := decide_eq_true HEQ.out
          obtain ⟨ai, hai⟩ : ∃ ai, T + (m + (256 + 256 * L)) = ai := ⟨_, rfl⟩
          have haiN : ai < N := by rw [← hai]; exact haN _ hidx
          obtain ⟨y, hy⟩ : ∃ y, ((encIo g).bitAt ai (Md.bitOf (v : Nat) j) x').2 = y := ⟨_, rfl⟩
          obtain ⟨_, okb⟩ := rebit_is HM.out.1 (k := k + 9 + j + 1) (by rw [hk4]; exact HOKJ.out) (i := ai) haiN (Md.bitOf (v : Nat) j) hy
          have HT2 : Hid ((Md.litGo (encIo g) T LK (v : Nat) j (2 * m + B) (decide (v / 2 ^ j = LK / 2 ^ j)) y).2 = z) := Lib.hid (by
            rw [← HT.out]
            conv => rhs; unfold Md.litGo
            rw [div_step, hal, HHL.out, HHB.out]
            simp only [if_true]
            rw [hai, hy]
            have e : ((encIo g).bitAt ai (Md.bitOf (v : Nat) j) x').1.toNat = B := by rw [← HHB.out, ← bit_toNat]; rfl
            rw [e])
          have HBITD := Lib.hid (fun (n : Nat) => show Calls Try.prog 29 #[PF C, PF h, .int .i64 (ai : Nat), .int .i64 (B : Nat)] (wr.drewN n) (RDone (.tuple #[]) C base h N (lc : Nat) (lp : Nat) (pb : Nat) (st : Nat) r y Y' (wr.drewN n)) from by
            have hb := (rebit_is (HM.out.1.drewN n) (k := k + 9 + j + 1) (by rw [hk4]; exact HOKJ.out) (i := ai) haiN (Md.bitOf (v : Nat) j) hy).1
            rw [← bitI_of, HHB.out] at hb
            exact hb)
          have HOK2 := Lib.hid okb
          have HS1 := Lib.hid hm1
          have HS2 := Lib.hid hm2
          obtain ⟨q1, hq1⟩ : ∃ q, v / 2 ^ (j + 1) = q := ⟨_, rfl⟩
          obtain ⟨q2, hq2⟩ : ∃ q, LK / 2 ^ (j + 1) = q := ⟨_, rfl⟩
          rw [hq1, hq2] at hal
          have HQ1 := Lib.hid hq1
          have HQ2 := Lib.hid hq2
          clear hq1 hq2
          have hqq : ((q1 : Int) == (q2 : Int)) = true := by
            have := of_decide_eq_true hal
            rw [this]; simp
          obtain ⟨T1, hT1⟩ : ∃ T1, T + 256 = T1 := ⟨_, rfl⟩
          obtain ⟨L1, hL1'⟩ : ∃ L1, 256 * L = L1 := ⟨_, rfl⟩
          obtain ⟨T2, hT2'⟩ : ∃ T2, T1 + L1 = T2 := ⟨_, rfl⟩
          have hT1i : (T : Int) + 256 = (T1 : Int) := by omega
          have hL1i : 256 * (L : Int) = (L1 : Int) := by omega
          have hT2i : (T1 : Int) + (L1 : Int) = (T2 : Int) := by omega
          have haii : (T2 : Int) + (m : Int) = (ai : Int) := by omega
          have hT1b : (T1 : Int) ≤ 2000000 := by omega
          have hL1b : (L1 : Int) ≤ 2000000 := by omega
          have hT2b : (T2 : Int) ≤ 4000000 := by omega
          have haib : (ai : Int) ≤ 5000000 := by omega
          have hLi : (L : Int) ≤ 1 := by omega
          clear hT1 hL1' hT2'
          have hw1 : IntKind.i64.wrap ((v : Int) / ((2 ^ (j + 1) : Nat) : Int)) = (q1 : Int) := by
            have h0 : v / 2 ^ (j + 1) ≤ v := Nat.div_le_self _ _
            rw [HQ1.out] at h0
            rw [show (v : Int) / ((2 ^ (j + 1) : Nat) : Int) = ((v / 2 ^ (j + 1) : Nat) : Int) by simp, HQ1.out, IntKind.wrap_i64]
            omega
          have hw2 : IntKind.i64.wrap ((LK : Int) / ((2 ^ (j + 1) : Nat) : Int)) = (q2 : Int) := by
            have h0 : LK / 2 ^ (j + 1) ≤ LK := Nat.div_le_self _ _
            rw [HQ2.out] at h0
            rw [show (LK : Int) / ((2 ^ (j + 1) : Nat) : Int) = ((LK / 2 ^ (j + 1) : Nat) : Int) by simp, HQ2.out, IntKind.wrap_i64]
            omega
          have hp2 : ((2 ^ (j + 1) : Nat) : Int) ≠ 0 := by have := Nat.one_le_two_pow (n := j + 1); omega
          have HTWD := Lib.hid (fun (n : Nat) => two_any j (by omega) (wr.drewN n))
          obtain ⟨q0, hq0⟩ : ∃ q, LK / 2 ^ j = q := ⟨_, rfl⟩
          have HD1 : Hid ((LK : Int) / ((2 ^ j : Nat) : Int) = (q0 : Int)) := Lib.hid (by rw [← hq0]; simp)
          have HD2 : Hid (((q0 : Nat) : Int).tmod 2 = (L : Int)) := Lib.hid (by rw [Int.tmod_eq_emod_of_nonneg (Int.natCast_nonneg _), ← HHL.out, hq0]; exact (Int.natCast_emod q0 2).symm)
          have hq0l : q0 ≤ LK := by rw [← hq0]; exact Nat.div_le_self _ _
          have hq0b : (q0 : Int) < 256 := by clear hq0; omega
          have HPZ : Hid (((2 ^ j : Nat) : Int) ≠ 0) := Lib.hid HPW.out
          clear hq0
          have hdv := HDV.out
          have hpw := HPW.out
          obtain ⟨PW, hPW⟩ : ∃ PW, 2 ^ j = PW := ⟨_, rfl⟩
          obtain ⟨P2, hP2⟩ : ∃ PW, 2 ^ (j + 1) = PW := ⟨_, rfl⟩
          rw [hPW] at HTWD
          rw [hPW] at HTWO hpw hdv HD1 HPZ
          rw [hP2] at HTWQ hp2 hw1 hw2
          clear okb hm1 hm2 hy hal hai hPW hP2
          go_wp2_with fail
          refine HTWO.out.mono ?_
          rintro e w2 ⟨rfl, rfl⟩
          go_upto_region 9 with fail
          go_quiet (with_reducible exact HTWQ.out _)
          clear hdv hp2 hw1 hw2 hwj hqq hidx hidx2 haN haiN HTWQ hpw
          go_wp2_with fail
          refine (HTWD.out _).mono ?_
          rintro e w2 ⟨rfl, rfl⟩
          have hd1 := HD1.out
          have hd2 := HD2.out
          have hpz := HPZ.out
          go_wp2_with fail
          refine (HBITD.out _).mono ?_
          rintro e w2 ⟨rfl, hw2'⟩
          have HW := Lib.hid (WentR.trans HM.out.2.1 HM.out.2.2 (wentR_undrew hw2'))
          clear hw2'
          go_wp2_with fail
          clear hd1 hd2 hpz
          obtain ⟨Y3, hM3, hon3, hY3⟩ := HW.out
          have e2 : 2 ^ (8 - j) = 2 ^ (8 - (j + 1)) * 2 := by rw [← Nat.pow_succ]; congr 1; omega
          exact ⟨⟨j, 2 * m + B, y, Y3, by omega, by go_num, by go_num, by have := HS1.out; omega, by have := HS2.out; omega, HOK2, HT2, Lib.hid ⟨hM3, hon3, hY3⟩⟩, by simp [intOf] <;> omega⟩
        · have HEQ := Lib.hid heq
          clear heq
          have hal : decide (v / 2 ^ (j + 1) = LK / 2 ^ (j + 1)) = false := decide_eq_false HEQ.out
          obtain ⟨ai, hai⟩ : ∃ ai, T + (m) = ai := ⟨_, rfl⟩
          have haiN : ai < N := by rw [← hai]; exact haN _ hidx2
          obtain ⟨y, hy⟩ : ∃ y, ((encIo g).bitAt ai (Md.bitOf (v : Nat) j) x').2 = y := ⟨_, rfl⟩
          obtain ⟨_, okb⟩ := rebit_is HM.out.1 (k := k + 9 + j + 1) (by rw [hk4]; exact HOKJ.out) (i := ai) haiN (Md.bitOf (v : Nat) j) hy
          have HT2 : Hid ((Md.litGo (encIo g) T LK (v : Nat) j (2 * m + B) (decide (v / 2 ^ j = LK / 2 ^ j)) y).2 = z) := Lib.hid (by
            rw [← HT.out]
            conv => rhs; unfold Md.litGo
            rw [div_step, hal, HHL.out, HHB.out]
            simp only [if_false, Bool.false_eq_true]
            rw [hai, hy]
            have e : ((encIo g).bitAt ai (Md.bitOf (v : Nat) j) x').1.toNat = B := by rw [← HHB.out, ← bit_toNat]; rfl
            rw [e])
          have HBITD := Lib.hid (fun (n : Nat) => show Calls Try.prog 29 #[PF C, PF h, .int .i64 (ai : Nat), .int .i64 (B : Nat)] (wr.drewN n) (RDone (.tuple #[]) C base h N (lc : Nat) (lp : Nat) (pb : Nat) (st : Nat) r y Y' (wr.drewN n)) from by
            have hb := (rebit_is (HM.out.1.drewN n) (k := k + 9 + j + 1) (by rw [hk4]; exact HOKJ.out) (i := ai) haiN (Md.bitOf (v : Nat) j) hy).1
            rw [← bitI_of, HHB.out] at hb
            exact hb)
          have HOK2 := Lib.hid okb
          have HS1 := Lib.hid hm1
          have HS2 := Lib.hid hm2
          obtain ⟨q1, hq1⟩ : ∃ q, v / 2 ^ (j + 1) = q := ⟨_, rfl⟩
          obtain ⟨q2, hq2⟩ : ∃ q, LK / 2 ^ (j + 1) = q := ⟨_, rfl⟩
          rw [hq1, hq2] at hal
          have HQ1 := Lib.hid hq1
          have HQ2 := Lib.hid hq2
          clear hq1 hq2
          have hqq : ((q1 : Int) == (q2 : Int)) = false := by
            have := of_decide_eq_false hal
            rw [beq_eq_false_iff_ne]; omega
          have haii : (T : Int) + (m : Int) = (ai : Int) := by omega
          have hw1 : IntKind.i64.wrap ((v : Int) / ((2 ^ (j + 1) : Nat) : Int)) = (q1 : Int) := by
            have h0 : v / 2 ^ (j + 1) ≤ v := Nat.div_le_self _ _
            rw [HQ1.out] at h0
            rw [show (v : Int) / ((2 ^ (j + 1) : Nat) : Int) = ((v / 2 ^ (j + 1) : Nat) : Int) by simp, HQ1.out, IntKind.wrap_i64]
            omega
          have hw2 : IntKind.i64.wrap ((LK : Int) / ((2 ^ (j + 1) : Nat) : Int)) = (q2 : Int) := by
            have h0 : LK / 2 ^ (j + 1) ≤ LK := Nat.div_le_self _ _
            rw [HQ2.out] at h0
            rw [show (LK : Int) / ((2 ^ (j + 1) : Nat) : Int) = ((LK / 2 ^ (j + 1) : Nat) : Int) by simp, HQ2.out, IntKind.wrap_i64]
            omega
          have hp2 : ((2 ^ (j + 1) : Nat) : Int) ≠ 0 := by have := Nat.one_le_two_pow (n := j + 1); omega
          have hdv := HDV.out
          have hpw := HPW.out
          obtain ⟨PW, hPW⟩ : ∃ PW, 2 ^ j = PW := ⟨_, rfl⟩
          obtain ⟨P2, hP2⟩ : ∃ PW, 2 ^ (j + 1) = PW := ⟨_, rfl⟩
          rw [hPW] at HTWO hpw hdv
          rw [hP2] at HTWQ hp2 hw1 hw2
          clear okb hm1 hm2 hy hal hai hPW hP2
          go_wp2_with fail
          refine HTWO.out.mono ?_
          rintro e w2 ⟨rfl, rfl⟩
          go_upto_region 9 with fail
          go_quiet (with_reducible exact HTWQ.out _)
          clear hdv hpw hp2 hw1 hw2 hwj hqq hidx hidx2 haN haiN HTWQ
          go_wp2_with fail
          refine (HBITD.out _).mono ?_
          rintro e w2 ⟨rfl, hw2'⟩
          have HW := Lib.hid (WentR.trans HM.out.2.1 HM.out.2.2 (wentR_undrew hw2'))
          clear hw2'
          go_wp2_with fail
          obtain ⟨Y3, hM3, hon3, hY3⟩ := HW.out
          have e2 : 2 ^ (8 - j) = 2 ^ (8 - (j + 1)) * 2 := by rw [← Nat.pow_succ]; congr 1; omega
          exact ⟨⟨j, 2 * m + B, y, Y3, by omega, by go_num, by go_num, by have := HS1.out; omega, by have := HS2.out; omega, HOK2, HT2, Lib.hid ⟨hM3, hon3, hY3⟩⟩, by simp [intOf] <;> omega⟩
end Go.Proofs.Ytiodlhieaajcgaa
