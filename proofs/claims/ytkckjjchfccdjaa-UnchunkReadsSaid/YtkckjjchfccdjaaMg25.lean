/- Several texts in one: QrSym, QrAfter. -/
import Derived.Test.YtkckjjchfccdjaaMg24
import Derived.Test.YtkckjjchfccdjaaMdSym
import Derived.Test.YtkckjjchfccdjaaMg13
import Derived.Test.YtkckjjchfccdjaaMg18
import Derived.Test.YtkckjjchfccdjaaMg15
/- The reference's Reader: a symbol. -/
namespace Go.Proofs.Ytkckjjchfccdjaa
set_option maxRecDepth 100000
open Go.RowKit

set_option maxRecDepth 100000 in
set_option maxHeartbeats 8000000 in
theorem qsym_any {gd o cap R C base h b off cc N lc lp pb st : Nat} {L : List UInt8} {r : R4} {y : PD} {Y : List Nat} {w : World} (hM : RD w R C base h b off cc N L (lc : Nat) (lp : Nat) (pb : Nat) (st : Nat) r y Y) (hok : (decIo gd o cap L).ok y.2 0) (hlc : lc ≤ 4) (hlp : lp ≤ 4) (hpb : pb ≤ 4) (hst : st < 12) (hr1 : 1 ≤ r.1) (hr2 : r.1 ≤ 4294967296) (A : Option Addr) (H : List UInt8) (c : Nat) (hB : Bytes w A H) (hc : H.length ≤ c) (hH : H.length ≤ 1000000000) (hHX : ∀ a, A = some a → a.block ∉ Y)
    (hN : N = 2180 + 768 * 2 ^ (lc + lp)) (hN2 : N ≤ 1000000) (kk : Int) (b0 : UInt8) (l0 d0 q0 : Int) {s' : Sy} {st' : Nat} {r' : R4} {z : PD} (hz : Md.sym (decIo gd o cap L) lc lp pb st r H kk b0 l0 d0 q0 y = (s', st', r', z)) :
    Calls Try.prog 42 #[PF R, .slice A H.length c] w (MAnd ((decIo gd o cap L).ok z.2 0 ∧ s'.k ≤ 2 ∧ s'.r ≤ 3 ∧ s'.l ≤ 273 ∧ s'.d ≤ 4294967296 ∧ (s'.k = 1 → 1 ≤ s'.d)) (QDone s'.val R C base h b off cc N L (lc : Nat) (lp : Nat) (pb : Nat) (st : Nat) r z Y w)) := by
  obtain ⟨Q, hQ⟩ : ∃ Q, ((decIo gd o cap L).ok z.2 0 ∧ s'.k ≤ 2 ∧ s'.r ≤ 3 ∧ s'.l ≤ 273 ∧ s'.d ≤ 4294967296 ∧ (s'.k = 1 → 1 ≤ s'.d)) = Q := ⟨_, rfl⟩
  rw [hQ]
  have HQ := Lib.hid hQ
  have HNN : Hid (2180 ≤ N) := Lib.hid (by omega)
  have hHi : (H.length : Int) ≤ 1000000000 := by omega
  have HB0 := Lib.hid hB
  have HHX := Lib.hid hHX
  have HNE := Lib.hid hN
  have HOK := Lib.hid hok
  have HST := Lib.hid hst
  obtain ⟨p, hp⟩ : ∃ p, H.length % 2 ^ pb = p := ⟨_, rfl⟩
  have hp16 : p < 16 := by
    have h1 : 1 ≤ 2 ^ pb := Nat.one_le_two_pow
    have h2 : 2 ^ pb ≤ 2 ^ 4 := Nat.pow_le_pow_right (by omega) hpb
    have := Nat.mod_lt H.length h1
    omega
  have hpi : (p : Int) < 16 := by omega
  have HTW := Lib.hid (fun w => two_any pb (by omega) w)
  obtain ⟨PW, hPW⟩ : ∃ PW, 2 ^ pb = PW := ⟨_, rfl⟩
  have hPW1 : (PW : Int) ≠ 0 := by have := Nat.one_le_two_pow (n := pb); omega
  have hPW2 : (PW : Int) ≤ 16 := by
    have h2 : 2 ^ pb ≤ 2 ^ 4 := Nat.pow_le_pow_right (by omega) hpb
    rw [hPW] at h2; omega
  have hpt : ((H.length : Nat) : Int).tmod (PW : Int) = (p : Int) := by rw [Int.tmod_eq_emod_of_nonneg (by omega), ← hp, hPW]; exact (Int.natCast_emod _ _).symm
  unfold Md.sym at hz
  simp only [hp] at hz
  rw [hPW] at HTW
  obtain ⟨⟨b1, y1⟩, hy1⟩ : ∃ q, (decIo gd o cap L).bitAt (16 * st + p) (kk != 0) y = q := ⟨_, rfl⟩
  simp only [hy1] at hz
  have HZ := Lib.hid hz
  have HY1 := Lib.hid hy1
  obtain ⟨W1, hW1⟩ : ∃ W1, w.alloc (.cells #[.int .i64 0, .int .u8 0, .int .i64 0, .int .i64 0, .int .i64 0] 99) = W1 := ⟨_, rfl⟩
  obtain ⟨W2, hW2⟩ : ∃ W2, W1.alloc (.cells #[.int .i64 0, .int .u8 0, .int .i64 0, .int .i64 0, .int .i64 0] 99) = W2 := ⟨_, rfl⟩
  obtain ⟨hqb, hb1, hb2⟩ := hM.boxes hW1 hW2
  have hM1 := hM.below hb1
  have hr1a : W1.cell? ⟨R, 1, none⟩ = some (PF C) := by rw [cell_of_row W1 _ _ _ _ _ hM1.rbox]; rfl
  have hc2a : W1.cell? ⟨C, 2, none⟩ = some (.int .i64 (pb : Nat)) := hM1.heads.2.2.1
  have HW1 := Lib.hid hW1
  have HW2 := Lib.hid hW2
  have HQB := Lib.hid hqb
  obtain ⟨bs, hbs⟩ : ∃ bs, w.heap.size = bs := ⟨_, rfl⟩
  obtain ⟨bt, hbt⟩ : ∃ bt, W1.heap.size = bt := ⟨_, rfl⟩
  rw [hbs, hbt] at HQB
  have HBS := Lib.hid hbs
  have HBT := Lib.hid hbt
  clear hQ hN hok hst hp hPW hz hy1 hW1 hW2 hqb hb1 hb2 hM1 hM hB hHX hbs hbt
  go_enter Try.func42, Try.ntmps42
  go_upto_region 1 with fail
  rw [HW1.out, HBS.out]
  go_wp2_with fail
  refine (HTW.out W1).mono ?_
  rintro e w1 ⟨rfl, rfl⟩
  go_upto_region 3 with fail
  rw [HW2.out, HBT.out]
  clear hr1a hc2a hpt hPW1
  have hr1b : W2.cell? ⟨R, 1, none⟩ = some (PF C) := by rw [cell_of_row W2 _ _ _ _ _ HQB.out.rd.rbox]; rfl
  have HMA := Lib.hid (rmatch_any HQB.out.rd HST.out p hp16)
  obtain ⟨ai, hai⟩ : ∃ ai, 16 * st + p = ai := ⟨_, rfl⟩
  rw [hai] at HMA HY1
  have HB1 := Lib.hid (qbit_is HQB.out.rd HOK.out (i := ai) (by have := HST.out; have := HNN.out; omega) _ HY1.out)
  clear hai
  go_wp2_with fail
  refine HMA.out.mono ?_
  rintro e w1 ⟨rfl, rfl⟩
  go_wp2_with fail
  refine HB1.out.1.mono ?_
  rintro e x1 ⟨rfl, hM1, hon1⟩
  have HQ1 := Lib.hid (HQB.out.step hM1 hon1)
  have HOK1 := Lib.hid HB1.out.2
  clear hM1 hon1 hr1b HB1 HQB HOK HMA
  cases b1 with
  | false =>
    have hz := HZ.out
    simp only [if_true] at hz
    obtain ⟨⟨u, z2⟩, hl⟩ : ∃ q, Md.lit (decIo gd o cap L) lc lp st r.1 H (b0.toNat : Nat) y1 = q := ⟨_, rfl⟩
    simp only [hl] at hz
    have HE := Lib.hid hz
    have HLI := Lib.hid (qliteral_any HQ1.out.rd HOK1.out hlc hlp HST.out hr1 hr2 A H c (HB0.out.only HQ1.out.only HHX.out) hc hH HNE.out hN2 _ hl)
    clear hz hl
    go_wp2_with fail
    refine HLI.out.mono ?_
    rintro e x2 ⟨⟨rfl, hM2, hon2⟩, ok2⟩
    have HQ2 := Lib.hid (HQ1.out.step hM2 hon2)
    have HOK2 := Lib.hid ok2
    obtain ⟨⟨t0, t1, t2, t3, t4⟩, _, ft, _⟩ := HQ2.out.cells
    have ft1 := ft 1
    clear hM2 hon2 ok2 ft
    go_upto_region 5 with fail
    have HQ3 := Lib.hid (HQ2.out.setB u)
    clear t0 t1 t2 t3 t4 ft1
    obtain ⟨X3, hX3⟩ : ∃ X3, x2.setCell ⟨bt, 1, none⟩ (.int .u8 (u.toNat : Nat)) = X3 := ⟨_, rfl⟩
    rw [hX3] at HQ3
    rw [hX3]
    obtain ⟨⟨t0, t1, t2, t3, t4⟩, ⟨z0, z1, z2', z3, z4⟩, ft, fs⟩ := HQ3.out.cells
    have fs0 := fs 0
    have fs1 := fs 1
    have fs2 := fs 2
    have fs3 := fs 3
    have fs4 := fs 4
    clear hX3 ft fs
    go_wp2_with fail
    refine bodyPost_ret (v := SyV 0 u 0 0 0) (by simp [results, Try.results42, go_sem, z0, z1, z2', z3, z4]) rfl ?_
    have he := HE.out
    injection he with e1 he
    injection he with e2 he
    injection he with e3 e4
    obtain ⟨d1, d2⟩ := HQ3.out.done (.int .i64 0) (.int .u8 (u.toNat : Nat)) (.int .i64 0) (.int .i64 0) (.int .i64 0)
    rw [← HQ.out, ← e1, ← e4]
    exact ⟨⟨rfl, d1, d2⟩, HOK2.out, by simp, by simp, by simp, by simp, by simp⟩
  | true =>
    have hz := HZ.out
    simp only [Bool.true_eq_false, if_false] at hz
    obtain ⟨⟨b2, y2⟩, hy2⟩ : ∃ q, (decIo gd o cap L).bitAt (192 + st) (kk != 1) y1 = q := ⟨_, rfl⟩
    simp only [hy2] at hz
    have HZ2 := Lib.hid hz
    have HRP := Lib.hid (rrep_any HQ1.out.rd HST.out)
    have hr1c : x1.cell? ⟨R, 1, none⟩ = some (PF C) := by rw [cell_of_row x1 _ _ _ _ _ HQ1.out.rd.rbox]; rfl
    have HY2 := Lib.hid hy2
    obtain ⟨ai2, hai2⟩ : ∃ ai, 192 + st = ai := ⟨_, rfl⟩
    rw [hai2] at HRP HY2
    have HB2 := Lib.hid (qbit_is HQ1.out.rd HOK1.out (i := ai2) (by have := HST.out; have := HNN.out; omega) _ HY2.out)
    clear hz hy2 hai2
    go_wp2_with fail
    refine HRP.out.mono ?_
    rintro e w1 ⟨rfl, rfl⟩
    go_wp2_with fail
    refine HB2.out.1.mono ?_
    rintro e x2 ⟨rfl, hM2, hon2⟩
    have HQ2 := Lib.hid (HQ1.out.step hM2 hon2)
    have HOK2 := Lib.hid HB2.out.2
    obtain ⟨⟨t0, t1, t2, t3, t4⟩, _, ft, _⟩ := HQ2.out.cells
    have ft0 := ft 0
    clear hM2 hon2 hr1c HB2 HQ1 HOK1 HRP ft
    cases b2 with
    | false =>
      have hz := HZ2.out
      simp only [if_true] at hz
      obtain ⟨⟨n, y3⟩, hn⟩ : ∃ q, Md.len (decIo gd o cap L) 432 p l0 y2 = q := ⟨_, rfl⟩
      simp only [hn] at hz
      obtain ⟨⟨dd, y4⟩, hd⟩ : ∃ q, Md.dist (decIo gd o cap L) n d0 y3 = q := ⟨_, rfl⟩
      simp only [hd] at hz
      have HE := Lib.hid hz
      have HN := Lib.hid hn
      have HD := Lib.hid hd
      clear hz hn hd
      go_upto_region 8 with fail
      have HQ3 := Lib.hid (HQ2.out.setK 1)
      obtain ⟨X3, hX3⟩ : ∃ X3, x2.setCell ⟨bt, 0, none⟩ (.int .i64 1) = X3 := ⟨_, rfl⟩
      rw [hX3] at HQ3
      rw [hX3]
      have HLE := Lib.hid (qlength_any HQ3.out.rd HOK2.out (.inl rfl) hp16 HNN.out hN2 _ HN.out)
      clear hX3 t0 t1 t2 t3 t4 ft0
      have HLS := Lib.hid (rlengths_no X3)
      go_wp2_with fail
      refine HLS.out.mono ?_
      rintro e w1 ⟨rfl, rfl⟩
      go_wp2_with fail
      refine HLE.out.mono ?_
      rintro e x4 ⟨⟨rfl, hM4, hon4⟩, ok4, n2, n3⟩
      have HQ4 := Lib.hid (HQ3.out.step hM4 hon4)
      have HOK4 := Lib.hid ok4
      have HN23 : Hid (2 ≤ n ∧ n ≤ 273) := Lib.hid ⟨n2, n3⟩
      obtain ⟨⟨t0, t1, t2, t3, t4⟩, _, ft, _⟩ := HQ4.out.cells
      have ft2 := ft 2
      clear hM4 hon4 ok4 ft n2 n3
      go_upto_region 9 with fail
      have HQ5 := Lib.hid (HQ4.out.setL (n : Nat))
      obtain ⟨X5, hX5⟩ : ∃ X5, x4.setCell ⟨bt, 2, none⟩ (.int .i64 (n : Nat)) = X5 := ⟨_, rfl⟩
      clear t0 t1 t2 t3 t4 ft2
      rw [hX5] at HQ5
      rw [hX5]
      obtain ⟨⟨t0, t1, t2, t3, t4⟩, _, ft, _⟩ := HQ5.out.cells
      have HDI := Lib.hid (qdistance_any HQ5.out.rd HOK4.out HN23.out.1 (by have := HN23.out.2; omega) HNN.out hN2 _ HD.out)
      clear hX5 ft
      go_wp2_with fail
      refine HDI.out.mono ?_
      rintro e x6 ⟨⟨rfl, hM6, hon6⟩, ok6, d2, d3⟩
      have HQ6 := Lib.hid (HQ5.out.step hM6 hon6)
      have HOK6 := Lib.hid ok6
      have HD23 : Hid (1 ≤ dd ∧ dd ≤ 4294967296) := Lib.hid ⟨d2, d3⟩
      clear t0 t1 t2 t3 t4
      obtain ⟨⟨t0, t1, t2, t3, t4⟩, _, ft, _⟩ := HQ6.out.cells
      have ft3 := ft 3
      clear hM6 hon6 ok6 ft d2 d3
      go_upto_region 10 with fail
      have HQ7 := Lib.hid (HQ6.out.setD (dd : Nat))
      obtain ⟨X7, hX7⟩ : ∃ X7, x6.setCell ⟨bt, 3, none⟩ (.int .i64 (dd : Nat)) = X7 := ⟨_, rfl⟩
      clear t0 t1 t2 t3 t4 ft3
      rw [hX7] at HQ7
      rw [hX7]
      obtain ⟨⟨t0, t1, t2, t3, t4⟩, ⟨z0, z1, z2', z3, z4⟩, ft, fs⟩ := HQ7.out.cells
      have fs0 := fs 0
      have fs1 := fs 1
      have fs2 := fs 2
      have fs3 := fs 3
      have fs4 := fs 4
      clear hX7 ft fs
      go_wp2_with fail
      refine bodyPost_ret (v := SyV 1 0 (n : Nat) (dd : Nat) 0) (by simp [results, Try.results42, go_sem, z0, z1, z2', z3, z4]) rfl ?_
      have he := HE.out
      injection he with e1 he
      injection he with e2 he
      injection he with e3 e4
      obtain ⟨d1, d2⟩ := HQ7.out.done (.int .i64 1) (.int .u8 0) (.int .i64 (n : Nat)) (.int .i64 (dd : Nat)) (.int .i64 0)
      rw [← HQ.out, ← e1, ← e4]
      exact ⟨⟨rfl, d1, d2⟩, HOK6.out, by simp, by simp, HN23.out.2, HD23.out.2, fun _ => HD23.out.1⟩
    | true =>
      have hz := HZ2.out
      simp only [Bool.true_eq_false, if_false] at hz
      obtain ⟨⟨⟨q, n⟩, y5⟩, hr⟩ : ∃ t, Md.rept (decIo gd o cap L) st p l0 q0 y2 = t := ⟨_, rfl⟩
      simp only [hr] at hz
      have HE := Lib.hid hz
      unfold Md.rept at hr
      obtain ⟨⟨wh, y3⟩, hw⟩ : ∃ t, Md.which (decIo gd o cap L) st q0 y2 = t := ⟨_, rfl⟩
      simp only [hw] at hr
      have HRT := Lib.hid hr
      have HWH := Lib.hid hw
      clear hz hr hw
      go_upto_region 12 with fail
      have HQ3 := Lib.hid (HQ2.out.setK 2)
      obtain ⟨X3, hX3⟩ : ∃ X3, x2.setCell ⟨bt, 0, none⟩ (.int .i64 2) = X3 := ⟨_, rfl⟩
      rw [hX3] at HQ3
      rw [hX3]
      have HRE := Lib.hid (qrepeat_any HQ3.out.rd HOK2.out HST.out HNN.out hN2 _ HWH.out)
      clear hX3 t0 t1 t2 t3 t4 ft0
      go_wp2_with fail
      refine HRE.out.mono ?_
      rintro e x4 ⟨⟨rfl, hM4, hon4⟩, ok4, hw3⟩
      have HQ4 := Lib.hid (HQ3.out.step hM4 hon4)
      have HOK4 := Lib.hid ok4
      have HW3 : Hid (wh ≤ 3) := Lib.hid hw3
      obtain ⟨⟨t0, t1, t2, t3, t4⟩, _, ft, _⟩ := HQ4.out.cells
      have ft4 := ft 4
      clear hM4 hon4 ok4 ft hw3
      go_upto_region 13 with fail
      have HQ5 := Lib.hid (HQ4.out.setQ (wh : Nat))
      obtain ⟨X5, hX5⟩ : ∃ X5, x4.setCell ⟨bt, 4, none⟩ (.int .i64 (wh : Nat)) = X5 := ⟨_, rfl⟩
      clear t0 t1 t2 t3 t4 ft4
      rw [hX5] at HQ5
      rw [hX5]
      obtain ⟨⟨t0, t1, t2, t3, t4⟩, _, ft, _⟩ := HQ5.out.cells
      have ft2 := ft 2
      clear hX5 ft
      go_upto_region 14 with fail
      have HQ6 := Lib.hid (HQ5.out.setL 1)
      obtain ⟨X6, hX6⟩ : ∃ X6, X5.setCell ⟨bt, 2, none⟩ (.int .i64 1) = X6 := ⟨_, rfl⟩
      clear t0 t1 t2 t3 t4 ft2
      rw [hX6] at HQ6
      rw [hX6]
      obtain ⟨⟨t0, t1, t2, t3, t4⟩, _, ft, _⟩ := HQ6.out.cells
      have ft2 := ft 2
      clear hX6 ft
      by_cases hw0 : wh = 0
      · subst hw0
        have hwi : (((0 : Nat) : Int) == 0) = true := rfl
        have hr := HRT.out
        rw [if_pos rfl] at hr
        obtain ⟨⟨b3, y4⟩, hy4⟩ : ∃ t, (decIo gd o cap L).bitAt (240 + 16 * st + p) (l0 != 1) y3 = t := ⟨_, rfl⟩
        simp only [hy4] at hr
        have HRT2 := Lib.hid hr
        have HY4 := Lib.hid hy4
        have HLG := Lib.hid (rlong_any HQ6.out.rd HST.out p hp16)
        have hr1d : X6.cell? ⟨R, 1, none⟩ = some (PF C) := by rw [cell_of_row X6 _ _ _ _ _ HQ6.out.rd.rbox]; rfl
        obtain ⟨ai3, hai3⟩ : ∃ ai, 240 + 16 * st + p = ai := ⟨_, rfl⟩
        rw [hai3] at HLG HY4
        have HB3 := Lib.hid (qbit_is HQ6.out.rd HOK4.out (i := ai3) (by have := HST.out; have := HNN.out; omega) _ HY4.out)
        clear hr hy4 hai3
        go_wp2_with fail
        refine HLG.out.mono ?_
        rintro e w1 ⟨rfl, rfl⟩
        go_wp2_with fail
        refine HB3.out.1.mono ?_
        rintro e x7 ⟨rfl, hM7, hon7⟩
        have HQ7 := Lib.hid (HQ6.out.step hM7 hon7)
        have HOK7 := Lib.hid HB3.out.2
        clear t0 t1 t2 t3 t4 ft2
        clear hM7 hon7 hr1d HB3
        cases b3 with
        | false =>
          have hr := HRT2.out
          simp only [if_true] at hr
          have HRT3 := Lib.hid hr
          obtain ⟨⟨t0, t1, t2, t3, t4⟩, ⟨z0, z1, z2', z3, z4⟩, ft, fs⟩ := HQ7.out.cells
          have fs0 := fs 0
          have fs1 := fs 1
          have fs2 := fs 2
          have fs3 := fs 3
          have fs4 := fs 4
          clear ft fs hr
          go_wp2_with fail
          refine bodyPost_ret (v := SyV 2 0 1 0 0) (by simp [results, Try.results42, go_sem, z0, z1, z2', z3, z4]) rfl ?_
          have he := HE.out
          have hr := HRT3.out
          injection hr with hr1 hr2
          injection hr1 with hr3 hr4
          injection he with e1 he
          injection he with e2 he
          injection he with e3 e4
          obtain ⟨d1, d2⟩ := HQ7.out.done (.int .i64 2) (.int .u8 0) (.int .i64 1) (.int .i64 0) (.int .i64 0)
          rw [← HQ.out, ← e1, ← e4, ← hr2, ← hr3, ← hr4]
          exact ⟨⟨rfl, d1, d2⟩, HOK7.out, by simp, by simp, by simp, by simp, by simp⟩
        | true =>
          have hr := HRT2.out
          simp only [Bool.true_eq_false, if_false] at hr
          obtain ⟨⟨n2, y6⟩, hn2⟩ : ∃ t, Md.len (decIo gd o cap L) 946 p l0 y4 = t := ⟨_, rfl⟩
          simp only [hn2] at hr
          have HRT3 := Lib.hid hr
          have HLE := Lib.hid (qlength_any HQ7.out.rd HOK7.out (.inr rfl) hp16 HNN.out hN2 _ hn2)
          have HLS := Lib.hid (rlengths_yes x7)
          clear hn2 hr
          go_wp2_with fail
          refine HLS.out.mono ?_
          rintro e w1 ⟨rfl, rfl⟩
          go_wp2_with fail
          refine HLE.out.mono ?_
          rintro e x8 ⟨⟨rfl, hM8, hon8⟩, ok8, n23, n33⟩
          have HQ8 := Lib.hid (HQ7.out.step hM8 hon8)
          have HOK8 := Lib.hid ok8
          have HN23 : Hid (2 ≤ n2 ∧ n2 ≤ 273) := Lib.hid ⟨n23, n33⟩
          obtain ⟨⟨t0, t1, t2, t3, t4⟩, _, ft, _⟩ := HQ8.out.cells
          have ft2 := ft 2
          clear hM8 hon8 ok8 ft n23 n33
          go_upto_region 18 with fail
          have HQ9 := Lib.hid (HQ8.out.setL (n2 : Nat))
          obtain ⟨X9, hX9⟩ : ∃ X9, x8.setCell ⟨bt, 2, none⟩ (.int .i64 (n2 : Nat)) = X9 := ⟨_, rfl⟩
          clear t0 t1 t2 t3 t4 ft2
          rw [hX9] at HQ9
          rw [hX9]
          obtain ⟨⟨t0, t1, t2, t3, t4⟩, ⟨z0, z1, z2', z3, z4⟩, ft, fs⟩ := HQ9.out.cells
          have fs0 := fs 0
          have fs1 := fs 1
          have fs2 := fs 2
          have fs3 := fs 3
          have fs4 := fs 4
          clear hX9 ft fs
          go_wp2_with fail
          refine bodyPost_ret (v := SyV 2 0 (n2 : Nat) 0 0) (by simp [results, Try.results42, go_sem, z0, z1, z2', z3, z4]) rfl ?_
          have he := HE.out
          have hr := HRT3.out
          injection hr with hr1 hr2
          injection hr1 with hr3 hr4
          injection he with e1 he
          injection he with e2 he
          injection he with e3 e4
          obtain ⟨d1, d2⟩ := HQ9.out.done (.int .i64 2) (.int .u8 0) (.int .i64 (n2 : Nat)) (.int .i64 0) (.int .i64 0)
          rw [← HQ.out, ← e1, ← e4, ← hr2, ← hr3, ← hr4]
          exact ⟨⟨rfl, d1, d2⟩, HOK8.out, by simp, by simp, HN23.out.2, by simp, by simp⟩
      · have hwi : ((wh : Int) == 0) = false := beq_eq_false_iff_ne.2 (by omega)
        have hr := HRT.out
        rw [if_neg hw0] at hr
        obtain ⟨⟨n2, y6⟩, hn2⟩ : ∃ t, Md.len (decIo gd o cap L) 946 p l0 y3 = t := ⟨_, rfl⟩
        simp only [hn2] at hr
        have HRT3 := Lib.hid hr
        have HLE := Lib.hid (qlength_any HQ6.out.rd HOK4.out (.inr rfl) hp16 HNN.out hN2 _ hn2)
        have HLS := Lib.hid (rlengths_yes X6)
        clear hn2 hr
        go_wp2_with fail
        refine HLS.out.mono ?_
        rintro e w1 ⟨rfl, rfl⟩
        go_wp2_with fail
        refine HLE.out.mono ?_
        rintro e x8 ⟨⟨rfl, hM8, hon8⟩, ok8, n23, n33⟩
        have HQ8 := Lib.hid (HQ6.out.step hM8 hon8)
        have HOK8 := Lib.hid ok8
        have HN23 : Hid (2 ≤ n2 ∧ n2 ≤ 273) := Lib.hid ⟨n23, n33⟩
        clear t0 t1 t2 t3 t4 ft2
        obtain ⟨⟨t0, t1, t2, t3, t4⟩, _, ft, _⟩ := HQ8.out.cells
        have ft2 := ft 2
        clear hM8 hon8 ok8 ft n23 n33
        go_upto_region 18 with fail
        have HQ9 := Lib.hid (HQ8.out.setL (n2 : Nat))
        obtain ⟨X9, hX9⟩ : ∃ X9, x8.setCell ⟨bt, 2, none⟩ (.int .i64 (n2 : Nat)) = X9 := ⟨_, rfl⟩
        clear t0 t1 t2 t3 t4 ft2
        rw [hX9] at HQ9
        rw [hX9]
        obtain ⟨⟨t0, t1, t2, t3, t4⟩, ⟨z0, z1, z2', z3, z4⟩, ft, fs⟩ := HQ9.out.cells
        have fs0 := fs 0
        have fs1 := fs 1
        have fs2 := fs 2
        have fs3 := fs 3
        have fs4 := fs 4
        clear hX9 ft fs
        go_wp2_with fail
        refine bodyPost_ret (v := SyV 2 0 (n2 : Nat) 0 (wh : Nat)) (by simp [results, Try.results42, go_sem, z0, z1, z2', z3, z4]) rfl ?_
        have he := HE.out
        have hr := HRT3.out
        injection hr with hr1 hr2
        injection hr1 with hr3 hr4
        injection he with e1 he
        injection he with e2 he
        injection he with e3 e4
        obtain ⟨d1, d2⟩ := HQ9.out.done (.int .i64 2) (.int .u8 0) (.int .i64 (n2 : Nat)) (.int .i64 0) (.int .i64 (wh : Nat))
        rw [← HQ.out, ← e1, ← e4, ← hr2, ← hr3, ← hr4]
        exact ⟨⟨rfl, d1, d2⟩, HOK8.out, by simp, HW3.out, HN23.out.2, by simp, by simp⟩
end Go.Proofs.Ytkckjjchfccdjaa

/- The reference's Reader: behind a symbol. -/
namespace Go.Proofs.Ytkckjjchfccdjaa
set_option maxRecDepth 100000
open Go.RowKit

theorem which_le (io : Io) (st : Nat) (q : Int) (x : io.S) : (Md.which io st q x).1 ≤ 3 := by
  unfold Md.which
  simp only
  split
  · simp
  · split
    · simp
    · show 2 + _ ≤ 3
      cases (io.bitAt (228 + st) (q != 2) (io.bitAt (216 + st) (q != 1) (io.bitAt (204 + st) (q != 0) x).2).2).1 <;> decide
theorem rept_le (io : Io) (st p : Nat) (l q : Int) (x : io.S) : (Md.rept io st p l q x).1.1 ≤ 3 := by
  unfold Md.rept
  simp only
  split
  · split
    · simp
    · simp
  · exact which_le io st q x
/-- What a symbol makes of the state and the repeats. -/
theorem sym_after (io : Io) (lc lp pb st : Nat) (r : R4) (H : List UInt8) (k : Int) (b : UInt8) (l d q : Int) (x : io.S) {s : Sy} {st' : Nat} {r' : R4} {z : io.S} (h : Md.sym io lc lp pb st r H k b l d q x = (s, st', r', z)) :
    r' = repsAfter r (s.k : Nat) (s.d : Nat) (s.r : Nat) ∧ ((st' : Nat) : Int) = stateAfter (st : Nat) (s.k : Nat) (s.l : Nat) ∧ (s.k ≠ 0 → distZ r (s.k : Nat) (s.d : Nat) (s.r : Nat) = r'.1) ∧ (s.k = 0 → s.l = 0) := by
  unfold Md.sym at h
  simp only at h
  split at h
  · injection h with h1 h
    injection h with h2 h
    injection h with h3 h4
    rw [← h1, ← h2, ← h3]
    exact ⟨rfl, lit_state st _, fun h => absurd rfl h, fun _ => rfl⟩
  · split at h
    · injection h with h1 h
      injection h with h2 h
      injection h with h3 h4
      rw [← h1, ← h2, ← h3]
      exact ⟨rfl, match_state st _, fun _ => rfl, fun h => absurd h (by simp)⟩
    · have hle := rept_le io st (H.length % 2 ^ pb) l q (io.bitAt (192 + st) (k != 1) (io.bitAt (16 * st + H.length % 2 ^ pb) (k != 0) x).2).2
      obtain ⟨⟨⟨q', l'⟩, z'⟩, hr⟩ : ∃ t, Md.rept io st (H.length % 2 ^ pb) l q (io.bitAt (192 + st) (k != 1) (io.bitAt (16 * st + H.length % 2 ^ pb) (k != 0) x).2).2 = t := ⟨_, rfl⟩
      rw [hr] at h hle
      simp only at h hle
      injection h with h1 h
      injection h with h2 h
      injection h with h3 h4
      rw [← h1, ← h2, ← h3]
      refine ⟨rept_reps r q' hle _, rept_state st l', fun _ => ?_, fun h => absurd h (by simp)⟩
      obtain ⟨a, b, c, e⟩ := r
      rcases (by omega : q' = 0 ∨ q' = 1 ∨ q' = 2 ∨ q' = 3) with rfl | rfl | rfl | rfl <;> rfl
theorem rGood_after {r : R4} (h : rGood r) {k d q : Nat} (hd : d ≤ 4294967296) (hd1 : k = 1 → 1 ≤ d) : rGood (repsAfter r (k : Nat) (d : Nat) (q : Nat)) := by
  obtain ⟨⟨a1, a2, a3, a4⟩, b1, b2, b3, b4⟩ := h
  unfold repsAfter
  split
  · exact ⟨⟨a1, a2, a3, a4⟩, b1, b2, b3, b4⟩
  · split
    · exact ⟨⟨by have := hd1 (by omega); show (1 : Int) ≤ (d : Int); omega, a1, a2, a3⟩, by show (d : Int) ≤ 4294967296; omega, b1, b2, b3⟩
    · split
      · exact ⟨⟨a1, a2, a3, a4⟩, b1, b2, b3, b4⟩
      · split
        · exact ⟨⟨a2, a1, a3, a4⟩, b2, b1, b3, b4⟩
        · split
          · exact ⟨⟨a3, a1, a2, a4⟩, b3, b1, b2, b4⟩
          · exact ⟨⟨a4, a1, a2, a3⟩, b4, b1, b2, b3⟩
section
variable {w : World} {R C base h b off cc N : Nat} {L : List UInt8} {lc lp pb st : Int} {r : R4} {y : PD} {Y : List Nat}
theorem RD.drewN (hM : RD w R C base h b off cc N L lc lp pb st r y Y) (n : Nat) : RD (w.drewN n) R C base h b off cc N L lc lp pb st r y Y := hM.below (below_drewN (Below.refl _ _) n)
theorem RD.bec (hM : RD w R C base h b off cc N L lc lp pb st r y Y) : ∃ (Pl : List Nat) (vR vP : Value), CodAt w C base lc lp pb st r Pl vR vP ∧ base ≤ w.heap.size ∧ ∀ (st' : Int) (r' : R4) (e : Ending) (w' : World), BecDone2 C base lc lp pb st' r' Pl vR vP w e w' → e = .returned (.tuple #[]) ∧ Only [C] w w' ∧ ∃ Y', RD w' R C base h b off cc N L lc lp pb st' r' y Y' ∧ ∀ i ∈ Y', i ∈ Y ∨ w.heap.size ≤ i := by
  have hrb := hM.rbox
  have houtB := hM.outB
  have hlt := hM.lt
  have hFA := hM.fair
  obtain ⟨Pl, vR, gR, gP, capP, hC, hgR, hE, hPl, hP, rfl⟩ := hM.ex
  refine ⟨Pl, vR, _, hC, by have := hC.ps.lt _ rfl; omega, ?_⟩
  rintro st' r' e w' ⟨vR', rfl, hC', hg, hv⟩
  obtain ⟨xd, yd, hxy, hD⟩ := id hE
  have n2 : C ≠ h := qrow_ne hC.box hD.blk (by decide)
  have n6 : R ≠ C := qrow_ne hrb hC.box (by decide)
  have n8 : b ≠ C := fun e => houtB (by simp [e])
  have bH := hg.block h (Array.getElem?_eq_some_iff.1 hD.blk).1 (by simpa using n2.symm)
  have bR := hg.block R (Array.getElem?_eq_some_iff.1 hrb).1 (by simpa using n6)
  have bB := hg.block b hlt.2.2 (by simpa using n8)
  obtain ⟨g', cap', e', _⟩ := hC'.reps.some_of_pos (show 0 < 4 by decide)
  have hg' : vR'.ownBlock = some g' := by rw [e']; rfl
  have hsub : ∀ k ∈ [C, g', gP, h], k ∈ [C, gR, gP, h] ∨ w.heap.size ≤ k := by
    intro k hk
    simp only [List.mem_cons, List.not_mem_nil, or_false] at hk ⊢
    rcases hk with rfl | rfl | rfl | rfl
    · exact .inl (.inl rfl)
    · rcases hv with hv | hv
      · rw [hv, hgR] at hg'
        injection hg' with hg'
        exact .inl (.inr (.inl hg'.symm))
      · exact .inr (hv _ hg')
    · exact .inl (.inr (.inr (.inl rfl)))
    · exact .inl (.inr (.inr (.inr rfl)))
  refine ⟨rfl, ?_, [C, g', gP, h], ⟨⟨Pl, vR', g', gP, capP, hC', hg', ⟨xd, yd, hxy, hD.keep hg.size bH bB⟩, hPl, hP, rfl⟩, bR.trans hrb, fun hb => ?_, hFA⟩, hsub⟩
  · exact ⟨hg.os, hg.tape, hg.output, hg.size, fun k hk hX => hg.block k hk (fun e => by injection e with e; subst e; exact hX (by simp))⟩
  · rcases hsub _ hb with h1 | h1
    · exact houtB h1
    · have := hlt.2.2; omega
/-- Bytes of one's own are none of the Reader's blocks. -/
theorem RD.apart (hM : RD w R C base h b off cc N L lc lp pb st r y Y) {g : Nat} {cs : Array Value} {f : Nat × Nat} (hg : w.heap[g]? = some (.cells cs 5 f)) : g ∉ Y := by
  obtain ⟨Pl, vR, gR, gP, capP, hC, hgR, hE, hPl, hP, rfl⟩ := hM.ex
  obtain ⟨xd, yd, _, hD⟩ := hE
  obtain ⟨csP, hrP⟩ := hC.ps.row
  have hRr : ∃ cs, w.heap[gR]? = some (.cells cs 3 (0, 0)) := by
    obtain ⟨g, cap', e, _⟩ := hC.reps.some_of_pos (show 0 < 4 by decide)
    rw [e] at hgR
    injection hgR with hgR
    subst hgR
    have h0 := hC.reps
    rw [e] at h0
    exact h0.row
  obtain ⟨csR, hrR⟩ := hRr
  simp only [List.mem_cons, List.not_mem_nil, or_false, not_or]
  exact ⟨qrow_ne hg hC.box (by decide), qrow_ne hg hrR (by decide), qrow_ne hg hrP (by decide), qrow_ne hg hD.blk (by decide)⟩
theorem RD.apartS (hM : RD w R C base h b off cc N L lc lp pb st r y Y) {g : Nat} {cs : Array Value} {f : Nat × Nat} (hg : w.heap[g]? = some (.cells cs 99 f)) : g ∉ Y := by
  obtain ⟨Pl, vR, gR, gP, capP, hC, hgR, hE, hPl, hP, rfl⟩ := hM.ex
  obtain ⟨xd, yd, _, hD⟩ := hE
  obtain ⟨csP, hrP⟩ := hC.ps.row
  have hRr : ∃ cs, w.heap[gR]? = some (.cells cs 3 (0, 0)) := by
    obtain ⟨g, cap', e, _⟩ := hC.reps.some_of_pos (show 0 < 4 by decide)
    rw [e] at hgR
    injection hgR with hgR
    subst hgR
    have h0 := hC.reps
    rw [e] at h0
    exact h0.row
  obtain ⟨csR, hrR⟩ := hRr
  simp only [List.mem_cons, List.not_mem_nil, or_false, not_or]
  exact ⟨qrow_ne hg hC.box (by decide), qrow_ne hg hrR (by decide), qrow_ne hg hrP (by decide), qrow_ne hg hD.blk (by decide)⟩
theorem RD.outCell (hM : RD w R C base h b off cc N L lc lp pb st r y Y) : w.cell? ⟨h, 4, none⟩ = some (.bool y.2.out) := by
  obtain ⟨_, _, _, _, _, _, _, ⟨xd, yd, _, hD⟩, _⟩ := hM.ex
  rw [cell_of_row w _ _ _ _ _ hD.blk]; rfl
end
theorem Own.row {base : Nat} {w : World} {v : Value} {l : List UInt8} (h : Own base w v l) {g : Nat} (hg : v.ownBlock = some g) : ∃ cs, w.heap[g]? = some (.cells cs 5 (0, 0)) := by
  rcases h with ⟨_, ⟨h1, _⟩ | ⟨g', cap', cur, e, _, h3, _⟩⟩
  · rw [h1] at hg; cases hg
  · rw [e] at hg
    injection hg with hg
    subst hg
    exact ⟨cur, h3⟩
/-- Only bytes of one's own were appended. -/
structure Adds (B : Nat) (a c : World) : Prop where
  below : Below B a c
  keep : ∀ k, k < a.heap.size → (∀ cs, a.heap[k]? ≠ some (.cells cs 5 (0, 0))) → c.heap[k]? = a.heap[k]?
theorem Adds.refl (B : Nat) (a : World) : Adds B a a := ⟨Below.refl _ _, fun _ _ _ => rfl⟩
theorem Adds.alloc {B : Nat} {a c : World} (h : Adds B a c) (hB : B ≤ c.heap.size) (o : Obj) : Adds B a (c.alloc o) :=
  ⟨h.below.alloc hB o, fun k hk hn => (Below.heap_alloc c o k (Nat.lt_of_lt_of_le hk h.below.size)).trans (h.keep k hk hn)⟩
theorem Adds.grown {B : Nat} {a c d : World} (h : Adds B a c) {v : Value} {l : List UInt8} (hO : Own B c v l) (hg : c.grownBy d v.ownBlock) (hB : B ≤ c.heap.size) : Adds B a d :=
  ⟨below_grown h.below hg hB (fun g e => (hO.from_base g e).1), fun k hk hn => (hg.block k (Nat.lt_of_lt_of_le hk h.below.size) (fun e => by
    obtain ⟨cs, hcs⟩ := hO.row e.symm
    rw [h.keep k hk hn] at hcs
    exact hn cs hcs)).trans (h.keep k hk hn)⟩
theorem RD.adds {w : World} {R C base h b off cc N : Nat} {L : List UInt8} {lc lp pb st : Int} {r : R4} {y : PD} {Y : List Nat} (hM : RD w R C base h b off cc N L lc lp pb st r y Y) {B : Nat} {w' : World} (ha : Adds B w w') (hb : b < B) : RD w' R C base h b off cc N L lc lp pb st r y Y := by
  have hrb := hM.rbox
  have houtB := hM.outB
  have hlt := hM.lt
  have hFA := hM.fair
  have hk : ∀ i ∈ Y, w'.heap[i]? = w.heap[i]? := fun i hi => ha.keep i (hlt.1 i hi) (fun cs hcs => hM.apart hcs hi)
  have hkR : w'.heap[R]? = w.heap[R]? := ha.keep R hlt.2.1 (fun cs hcs => by
    rw [hrb] at hcs
    injection hcs with hcs
    injection hcs with _ e _
    exact absurd e (by decide))
  obtain ⟨Pl, vR, gR, gP, capP, hC, hgR, hE, hPl, hP, rfl⟩ := hM.ex
  obtain ⟨xd, yd, hxy, hD⟩ := hE
  refine ⟨⟨Pl, vR, gR, gP, capP, ⟨(hk C (by simp)).trans hC.box, hC.reps.keep (fun g e => by rw [hgR] at e; injection e with e; subst e; exact hk gR (by simp)), hC.ps.keep (fun g e => by injection e with e; subst e; exact hk gP (by simp))⟩, hgR, ⟨xd, yd, hxy, hD.keep ha.below.size (hk h (by simp)) (ha.below.block b hb)⟩, hPl, hP, rfl⟩, hkR.trans hrb, houtB, hFA⟩
end Go.Proofs.Ytkckjjchfccdjaa
