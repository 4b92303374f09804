/- ParseStands: for every input the law returns true. -/
import Derived.Test.YtnglkipjiojipaaPaLawM
import Derived.Test.YtnglkipjiojipaaPaKnows
import Derived.Deep.RegionHeld3
import Derived.Laws.AppendOwn
namespace Go.Proofs.Ytnglkipjiojipaa
open Go.RowKit

theorem becomes_any (C base : Nat) (lc lp pb st : Int) (r : R4) (P : List Nat) (vR vP : Value) (s : Sy) (w : World) (hC : CodAt w C base lc lp pb st r P vR vP) (hbase : base ≤ w.heap.size) (h0 : 0 ≤ st) (h1 : st ≤ 11) (hk : s.k ≤ 2) (hr : s.r ≤ 3) :
    Calls Try.prog 11 #[PF C, s.val] w (BecDone C base lc lp pb (stateAfter st (s.k : Nat) (s.l : Nat)) (afterS s r) P vP w) := by
  rw [← repsAfter_after s hk r]
  obtain ⟨k, b, l, d, q⟩ := s
  simp only at hk hr
  rcases (by omega : k = 0 ∨ k = 1 ∨ k = 2) with rfl | rfl | rfl
  · exact becomes_lit C base lc lp pb st r P vR vP b _ _ _ w hC h0 h1
  · exact becomes_match C base lc lp pb st r P vR vP b _ _ _ w hC hbase
  · exact becomes_rep C base lc lp pb st r P vR vP b _ _ q w hC hbase hr
theorem stateAfter_in {st k l : Int} (h0 : 0 ≤ st) (h1 : st ≤ 11) : 0 ≤ stateAfter st k l ∧ stateAfter st k l ≤ 11 := by
  unfold stateAfter
  split
  · split
    · omega
    · split <;> omega
  · split
    · split <;> omega
    · split
      · omega
      · split <;> omega
theorem OwnS.form {base : Nat} {w : World} {v : Value} {l : List Sy} (h : OwnS base w v l) :
    ∃ A cap, v = .slice A l.length cap ∧ l.length ≤ cap ∧ cap ≤ 9223372036854775807 ∧ ∀ i (h : i < l.length), ∃ g, A = some ⟨g, 0, none⟩ ∧ g < w.heap.size ∧ w.cell? ⟨g, 5 * i, none⟩ = some (.int .i64 (l[i].k : Nat)) ∧ w.cell? ⟨g, 5 * i + 1, none⟩ = some (.int .u8 (l[i].b.toNat : Nat)) ∧
      w.cell? ⟨g, 5 * i + 2, none⟩ = some (.int .i64 (l[i].l : Nat)) ∧ w.cell? ⟨g, 5 * i + 3, none⟩ = some (.int .i64 (l[i].d : Nat)) ∧ w.cell? ⟨g, 5 * i + 4, none⟩ = some (.int .i64 (l[i].r : Nat)) := by
  by_cases hl : 0 < l.length
  · obtain ⟨g, cap, rfl, hg, hc, hm, hat⟩ := h.read hl
    exact ⟨_, cap, rfl, hc, hm, fun i hi => ⟨g, rfl, hg, hat i hi⟩⟩
  · rcases h with ⟨_, ⟨rfl, h3⟩ | ⟨g, cap, cur, rfl, h3, h4, h5, h6, _⟩⟩
    · exact ⟨none, 0, by rw [h3], by omega, by decide, fun i hi => by omega⟩
    · exact ⟨_, cap, rfl, h5, by unfold maxLen at h6; exact h6, fun i hi => by omega⟩
set_option maxRecDepth 100000 in
set_option maxHeartbeats 1000000 in
theorem stands_law (A : Option Addr) (D : List UInt8) (c : Nat) (fr dict nice : Int) (w : World) (hB : Bytes w A D) (hc : D.length ≤ c) (hm : c ≤ 9223372036854775807)
    (_ : -9223372036854775808 ≤ fr) (_ : fr ≤ 9223372036854775807) (_ : -9223372036854775808 ≤ dict) (_ : dict ≤ 9223372036854775807) (_ : -9223372036854775808 ≤ nice) (_ : nice ≤ 9223372036854775807) :
    Calls Try.prog 3 #[.slice A D.length c, .int .i64 fr, .int .i64 dict, .int .i64 nice] w (Holds w) := by
  have hmi : (D.length : Int) ≤ 9223372036854775807 := by omega
  by_cases hout : (300 : Int) < (D.length : Int) ∨ fr < 0 ∨ (D.length : Int) < fr
  · have hs : ((300 : Int) < (D.length : Int)) ∨ (¬ (300 : Int) < (D.length : Int) ∧ fr < 0) ∨ (¬ (300 : Int) < (D.length : Int) ∧ ¬ fr < 0 ∧ (D.length : Int) < fr) := by omega
    clear hout hB
    rcases hs with g1 | ⟨g1, g2⟩ | ⟨g1, g2, g3⟩
    all_goals
      go_enter Try.func3, Try.ntmps3
      go_wp2_with fail
      refine (knows_any _).mono ?_
      rintro e w1 ⟨rfl, hb⟩
      go_wp2_with fail
      go_ret
      exact ⟨rfl, hb⟩
  have i1 : ¬ (300 : Int) < (D.length : Int) := by omega
  have i2 : ¬ fr < 0 := by omega
  have i3 : ¬ (D.length : Int) < fr := by omega
  have hli : (D.length : Int) ≤ 300 := by omega
  by_cases hbad : dict < 1 ∨ nice < 2 ∨ 273 < nice
  · have HN := Lib.hid (new_bad (.slice A D.length c) dict nice w hbad)
    clear hbad hB hout
    go_enter Try.func3, Try.ntmps3
    go_wp2_with fail
    refine HN.out.mono ?_
    rintro e w1 ⟨rfl, rfl⟩
    go_wp2_with fail
    refine (knows_any _).mono ?_
    rintro e w1 ⟨rfl, hb⟩
    go_wp2_with fail
    go_ret
    exact ⟨rfl, hb⟩
  have h1 : ¬ dict < 1 := by omega
  have h2 : ¬ nice < 2 := by omega
  have h3 : ¬ 273 < nice := by omega
  have HN := Lib.hid (New_any A D c dict nice w hB hc (by omega) h1 h2 h3)
  obtain ⟨p0, rfl⟩ : ∃ p : Nat, fr = (p : Int) := ⟨fr.toNat, by omega⟩
  have hp0 : p0 ≤ D.length := by omega
  have HP0 := Lib.hid hp0
  have hp0i : (p0 : Int) ≤ (D.length : Int) := by omega
  have hci : (D.length : Int) ≤ (c : Int) := by omega
  have HBY := Lib.hid hB
  have HC := Lib.hid hc
  have HST := Lib.hid (fun (p : Nat) (r : R4) (hp : p < D.length) => next_stands (D := D) (dict := dict) (nice := nice) (p := p) (r := r) hp (by omega) (by omega) (by omega))
  have e01 : decide ((300 : Int) < (D.length : Int)) = false := decide_eq_false i1
  have e02 : decide ((D.length : Int) < (p0 : Int)) = false := decide_eq_false i3
  have e03 : decide (D.length < p0) = false := decide_eq_false (by omega)
  have e04 : decide (300 < D.length) = false := decide_eq_false (by omega)
  have HD300 := Lib.hid hli
  clear hbad hB hp0 hout hc
  go_enter Try.func3, Try.ntmps3
  go_wp2_with fail
  refine HN.out.mono ?_
  rintro e w1 ⟨F, AF, cF, mp, B, rfl, hRd, hb1⟩
  have HSY := Lib.hid (Symbols_any F AF A cF c D dict nice mp B p0 D.length (1, 1, 1, 1) w1 hRd (HBY.out.below hb1) HC.out HP0.out (Nat.le_refl _))
  have HB1 := Lib.hid hb1
  clear hRd hb1 HN
  go_wp2_with fail
  refine HSY.out.mono ?_
  rintro e w2 ⟨v, rfl, hos, hb2⟩
  obtain ⟨L, hL⟩ : ∃ L, (symsOf D dict nice D.length (D.length - p0) p0 (1, 1, 1, 1)).1 = L := ⟨_, rfl⟩
  obtain ⟨rr, hrr⟩ : ∃ q, (symsOf D dict nice D.length (D.length - p0) p0 (1, 1, 1, 1)).2 = q := ⟨_, rfl⟩
  rw [hL] at hos
  rw [hrr]
  obtain ⟨AL, cL, rfl, hcL, hmL, hat⟩ := hos.form
  have hcLi : (L.length : Int) ≤ (cL : Int) := by omega
  have hmLi : (L.length : Int) ≤ 9223372036854775807 := by omega
  have HL := Lib.hid hL
  have HAT := Lib.hid hat
  have HB2 := Lib.hid (HB1.out.trans (hb2.mono HB1.out.size))
  clear hos hL hrr hcL hmL hat hb2 HSY
  go_upto_region 7 with fail
  obtain ⟨W3, hW3⟩ : ∃ W3, w2.alloc (.cells #[.int .i64 rr.1, .int .i64 rr.2.1, .int .i64 rr.2.2.1, .int .i64 rr.2.2.2] 29) = W3 := ⟨_, rfl⟩
  rw [hW3]
  have hb23 : Below w2.heap.size w2 W3 := by rw [← hW3]; exact (Below.refl _ _).alloc (Nat.le_refl _) _
  have HB23 := Lib.hid hb23
  have HB3 := Lib.hid (HB2.out.trans (hb23.mono HB2.out.size))
  clear hW3 hb23
  go_wp2_with fail
  refine (newC_any 0 0 0 (by decide) W3).mono ?_
  rintro e w4 ⟨C, vR0, vP, rfl, hco, hb4, hCge⟩
  have HCO0 := Lib.hid hco
  have HB34 := Lib.hid hb4
  have HCGE := Lib.hid hCge
  have HT0 : Hid ((D.take p0).length = p0) := Lib.hid (by rw [List.length_take]; have := HP0.out; omega)
  obtain ⟨W5, hW5⟩ : ∃ W5, w4.alloc (.cells #[] 5) = W5 := ⟨_, rfl⟩
  have hb45 : Below w4.heap.size w4 W5 := by rw [← hW5]; exact (Below.refl _ _).alloc (Nat.le_refl _) _
  have ho5 : Own w4.heap.size W5 (.slice (some ⟨w4.heap.size, 0, none⟩) 0 0) [] := by rw [← hW5]; exact empty_own w4
  have HW5 := Lib.hid hW5
  have HB45 := Lib.hid hb45
  have HO5 := Lib.hid ho5
  have HB5 := Lib.hid ((HB3.out.trans (HB34.out.mono HB3.out.size)).trans (hb45.mono (Nat.le_trans HB3.out.size HB34.out.size)))
  have HX5 := Lib.hid ((HBY.out.below HB5.out).take p0)
  clear hco hb4 hCge hW5 hb45 ho5
  go_wp2_with (at_builtin; rw [HW5.out]; refine wpList_append_bytes rfl (.tmp 68) (.tmp 71) rfl w4.heap.size W5 _ [] rfl HO5.out A (D.take p0) c (by rw [HT0.out]; rfl) HX5.out (by rw [HT0.out]; have := HP0.out; have := HD300.out; simp; omega) HB45.out.size ?_; intro v6 w6 ho6 hg6; have HO6 := Lib.hid (show Own w4.heap.size w6 v6 (D.take p0) from ho6); have HB6 := Lib.hid (below_grown HB45.out hg6 HB45.out.size (fun g e => (HO5.out.from_base g e).1)); clear ho6 hg6)
  have HSYM := Lib.hid (fun (n : Nat) (hn : n < L.length) (W : World) (hb : Below W3.heap.size W3 W) => (show ∃ g, AL = some ⟨g, 0, none⟩ ∧ W.cell? ⟨g, 5 * n, none⟩ = some (.int .i64 (L[n].k : Nat)) ∧ W.cell? ⟨g, 5 * n + 1, none⟩ = some (.int .u8 (L[n].b.toNat : Nat)) ∧
      W.cell? ⟨g, 5 * n + 2, none⟩ = some (.int .i64 (L[n].l : Nat)) ∧ W.cell? ⟨g, 5 * n + 3, none⟩ = some (.int .i64 (L[n].d : Nat)) ∧ W.cell? ⟨g, 5 * n + 4, none⟩ = some (.int .i64 (L[n].r : Nat)) from by
    obtain ⟨g, hA, hg, c0, c1, c2, c3, c4⟩ := HAT.out n hn
    have h2 : Below w2.heap.size w2 W := HB23.out.trans (hb.mono HB23.out.size)
    exact ⟨g, hA, (h2.cell (p := ⟨g, 5 * n, none⟩) hg).trans c0, (h2.cell (p := ⟨g, 5 * n + 1, none⟩) hg).trans c1, (h2.cell (p := ⟨g, 5 * n + 2, none⟩) hg).trans c2, (h2.cell (p := ⟨g, 5 * n + 3, none⟩) hg).trans c3, (h2.cell (p := ⟨g, 5 * n + 4, none⟩) hg).trans c4⟩))
  obtain ⟨PL, hPL⟩ : ∃ P, List.replicate (2180 + 768 * 2 ^ (0 + 0)) 1024 = P := ⟨_, rfl⟩
  rw [hPL] at HCO0
  clear hPL
  have HCO6 := Lib.hid (HCO0.out.below HB6.out)
  have HB36 := Lib.hid (HB34.out.trans (HB6.out.mono HB34.out.size))
  have HCLT : Hid (C < w4.heap.size) := Lib.hid HCO0.out.lt
  go_loopw [15, 16] (fun h i wr => ∃ (n p : Nat) (r : R4) (st : Int) (vR hv : Value), hv = h ∧ i = .int .i64 (n : Nat) ∧ n ≤ L.length ∧ p ≤ D.length ∧ Hid (L.drop n = (symsOf D dict nice D.length (D.length - p) p r).1) ∧ Hid (CodAt wr C W3.heap.size 0 0 0 st r PL vR vP ∧ 0 ≤ st ∧ st ≤ 11) ∧ Hid (Own w4.heap.size wr hv (D.take p)) ∧ Hid (Below W3.heap.size W3 wr) ∧ Hid (w4.heap.size ≤ wr.heap.size)) (fun _ i _ => L.length - (intOf i).toNat)
  case atStart => exact ⟨0, p0, (1, 1, 1, 1), 0, vR0, _, rfl, rfl, Nat.zero_le _, HP0.out, Lib.hid (by rw [List.drop_zero, HL.out]), Lib.hid ⟨HCO6.out, by decide, by decide⟩, HO6, HB36, Lib.hid HB6.out.size⟩
  case round =>
    obtain ⟨n, p, r, st, vR, hv, rfl, rfl, hn, hp, HDR, HCS, HO, HBW, HWS⟩ := hrel
    by_cases hnl : n < L.length
    · have hni : (n : Int) < (L.length : Int) := by omega
      have hpD : p < D.length := by
        rcases Nat.lt_or_ge p D.length with h | h
        · exact h
        · exfalso
          have h2 := HDR.out
          rw [symsOf_end (by omega)] at h2
          have h3 := congrArg List.length h2
          rw [List.length_drop] at h3
          simp only [List.length_nil] at h3
          omega
      have hSt := HST.out p r hpD
      obtain ⟨s, hs⟩ : ∃ s, L[n] = s := ⟨_, rfl⟩
      have hboth : s = nextS D dict nice D.length p r ∧ L.drop (n + 1) = (symsOf D dict nice D.length (D.length - (p + max s.l 1)) (p + max s.l 1) (afterS s r)).1 := by
        have h2 := HDR.out
        rw [symsOf_step hpD, List.drop_eq_getElem_cons hnl, hs] at h2
        simp only [List.cons.injEq] at h2
        refine ⟨h2.1, ?_⟩
        rw [h2.2, ← h2.1]
      rw [← hboth.1] at hSt
      have HNX := Lib.hid hboth.2
      have HSTD := Lib.hid hSt
      have HSY := Lib.hid (HSYM.out n hnl)
      rw [hs] at HSY
      have hgx : ∃ g, AL = some ⟨g, 0, none⟩ := by
        obtain ⟨g, hA, _⟩ := HSY.out W3 (Below.refl _ _)
        exact ⟨g, hA⟩
      obtain ⟨g, rfl⟩ := hgx
      have HSYB : Hid (∀ W : World, Below W3.heap.size W3 W → W.cell? ⟨g, n * 5, none⟩ = some (.int .i64 (s.k : Nat)) ∧ W.cell? ⟨g, n * 5 + 1, none⟩ = some (.int .u8 (s.b.toNat : Nat)) ∧ W.cell? ⟨g, n * 5 + 2, none⟩ = some (.int .i64 (s.l : Nat)) ∧ W.cell? ⟨g, n * 5 + 3, none⟩ = some (.int .i64 (s.d : Nat)) ∧ W.cell? ⟨g, n * 5 + 4, none⟩ = some (.int .i64 (s.r : Nat))) := Lib.hid (fun W hb => by
        obtain ⟨g', hA, hc⟩ := HSY.out W hb
        injection hA with hA
        injection hA with hA
        subst hA
        rw [Nat.mul_comm n 5]; exact hc)
      obtain ⟨bk, hbk, hbb, hgr⟩ := hSt.back
      obtain ⟨AH, cH, eH, hcH, hmH, hBH⟩ := HO.out.read
      have hlenT : (D.take p).length = p := by rw [List.length_take]; omega
      rw [hlenT] at eH hcH
      subst eH
      have HLT := Lib.hid hlenT
      have HFI : Hid (fitsZ r (p : Nat) (s.k : Nat) (s.l : Nat) (s.d : Nat) (s.r : Nat) = true) := Lib.hid hSt.fits
      have HDI : Hid (distZ r (s.k : Nat) (s.d : Nat) (s.r : Nat) = (bk : Nat)) := Lib.hid hbk
      have hnear : (bk : Int) ≤ dict := by rw [← hbk]; exact hSt.near
      have hnb : decide (dict < (bk : Int)) = false := decide_eq_false (by omega)
      have HPL : Hid (plainZ (s.k : Nat) s.b (s.l : Nat) (s.d : Nat) (s.r : Nat) = s.val) := Lib.hid hSt.plain
      have HKQ : Hid (((s.k : Nat) : Int) = 2 → 0 ≤ ((s.r : Nat) : Int) ∧ ((s.r : Nat) : Int) ≤ 3) := Lib.hid (fun _ => by have := hSt.q; omega)
      have HCO := Lib.hid HCS.out.1
      have HBK := Lib.hid (And.intro hbb hgr)
      have hdr : Below wr.heap.size wr wr.drew := ⟨rfl, rfl, rfl, Nat.le_refl _, fun _ _ => rfl⟩
      have HSYM := HSYB
      clear hSt hs hboth hbk hbb hgr hcH hmH hBH hlenT HSY
      go_upto_region 14 with fail
      refine wp_region_held_drew (S := fun w2 => Below wr.heap.size wr w2) (by kernel_rfl) hdr (fun hS => ?_)
      refine wpAnyH_take (i := 0) (oi := { dst := some 79, op := Op.move (Operand.tmp 14), type := 32, pos := "law.go:63", after := #[], guard := none }) (v := ?vps1) rfl (by kernel_rfl) (by kernel_rfl) (by kernel_rfl) (fun _ _ _ h => h) (Or.inl ⟨by rfl, ?yps1⟩) hS ?_
      case yps1 =>
        intro w hSw
        go_simp; all_goals (with_reducible rfl)
      simp only [Act.put, List.setIfInBounds_toArray, List.set_cons_zero, List.set_cons_succ]
      refine wpAnyH_take (i := 1) (oi := { dst := some 80, op := Op.move (Operand.tmp 15), type := 22, pos := "law.go:63", after := #[], guard := none }) (v := ?vps2) rfl (by kernel_rfl) (by kernel_rfl) (by kernel_rfl) (fun _ _ _ h => h) (Or.inl ⟨by rfl, ?yps2⟩) hS ?_
      case yps2 =>
        intro w hSw
        go_simp; all_goals (with_reducible rfl)
      simp only [Act.put, List.setIfInBounds_toArray, List.set_cons_zero, List.set_cons_succ]
      refine wpAnyH_take (i := 2) (oi := { dst := some 81, op := Op.move (Operand.tmp 11), type := 28, pos := "law.go:63", after := #[], guard := none }) (v := ?vps3) rfl (by kernel_rfl) (by kernel_rfl) (by kernel_rfl) (fun _ _ _ h => h) (Or.inl ⟨by rfl, ?yps3⟩) hS ?_
      case yps3 =>
        intro w hSw
        go_simp; all_goals (with_reducible rfl)
      simp only [Act.put, List.setIfInBounds_toArray, List.set_cons_zero, List.set_cons_succ]
      refine wpAnyH_take (i := 3) (oi := { dst := some 82, op := Op.move (Operand.tmp 16), type := 3, pos := "law.go:63", after := #[], guard := none }) (v := ?vps4) rfl (by kernel_rfl) (by kernel_rfl) (by kernel_rfl) (fun _ _ _ h => h) (Or.inl ⟨by rfl, ?yps4⟩) hS ?_
      case yps4 =>
        intro w hSw
        go_simp; all_goals (with_reducible rfl)
      simp only [Act.put, List.setIfInBounds_toArray, List.set_cons_zero, List.set_cons_succ]
      refine wpAnyH_take (i := 4) (oi := { dst := some 83, op := Op.indexAddr 28 (Operand.tmp 81) (Operand.tmp 82), type := 0, pos := "law.go:63", after := #[{ on := 2, ground := Ground.data }, { on := 3, ground := Ground.data }], guard := none }) (v := ?vps5) rfl (by kernel_rfl) (by kernel_rfl) (by kernel_rfl) (fun _ _ _ h => h) (Or.inl ⟨by rfl, ?yps5⟩) hS ?_
      case yps5 =>
        intro w hSw
        obtain ⟨q0, q1, q2, q3, q4⟩ := HSYM.out w (HBW.out.trans (hSw.mono HBW.out.size))
        go_simp; all_goals (with_reducible rfl)
      simp only [Act.put, List.setIfInBounds_toArray, List.set_cons_zero, List.set_cons_succ]
      refine wpAnyH_take (i := 5) (oi := { dst := some 84, op := Op.load 36 (Operand.tmp 83), type := 36, pos := "law.go:63", after := #[{ on := 4, ground := Ground.data }], guard := none }) (v := ?vps6) rfl (by kernel_rfl) (by kernel_rfl) (by kernel_rfl) (fun _ _ _ h => h) (Or.inl ⟨by rfl, ?yps6⟩) hS ?_
      case yps6 =>
        intro w hSw
        obtain ⟨q0, q1, q2, q3, q4⟩ := HSYM.out w (HBW.out.trans (hSw.mono HBW.out.size))
        go_simp; all_goals (with_reducible rfl)
      simp only [Act.put, List.setIfInBounds_toArray, List.set_cons_zero, List.set_cons_succ]
      refine wpAnyH_ready (rs := [6]) (by kernel_rfl) (by simp) ?_
      refine (AllReadyH.cons (o := { dst := some 85, op := Op.call { callee := Callee.value (Operand.func 8), args := #[Operand.tmp 79, Operand.tmp 80, Operand.tmp 84], argTypes := #[32, 22, 36] }, type := 4, pos := "law.go:63", after := #[{ on := 0, ground := Ground.data }, { on := 1, ground := Ground.data }, { on := 5, ground := Ground.data }], guard := none }) rfl (fun K hK => ?_) AllReadyH.nil)
      go_simp
      refine (fits_any C W3.heap.size 0 0 0 st r PL vR vP AH p cH (s.k : Nat) s.b (s.l : Nat) (s.d : Nat) (s.r : Nat) wr.drew (HCO.out.below hdr)).mono ?_
      rintro e x4 ⟨rfl, kb4⟩
      rw [HFI.out]
      have g4 := hdr.trans (kb4.mono hdr.size)
      go_wp2_with fail
      refine hK.out _ _ g4 (fun _ => ?_)
      clear hK K
      refine wpAnyH_take (i := 7) (oi := { dst := some 86, op := Op.unOp UnOp.not 4 (Operand.tmp 85), type := 4, pos := "law.go:63", after := #[{ on := 6, ground := Ground.data }], guard := none }) (v := ?vps7) rfl (by kernel_rfl) (by kernel_rfl) (by kernel_rfl) (fun _ _ _ h => h) (Or.inl ⟨by rfl, ?yps7⟩) g4 ?_
      case yps7 =>
        intro w hSw
        go_simp; all_goals (with_reducible rfl)
      simp only [Act.put, List.setIfInBounds_toArray, List.set_cons_zero, List.set_cons_succ]
      refine wpAnyH_take (i := 8) (oi := { dst := some 87, op := Op.move (Operand.tmp 86), type := 4, pos := "law.go:63", after := #[{ on := 7, ground := Ground.data }, { on := 6, ground := Ground.chain }], guard := none }) (v := ?vps8) rfl (by kernel_rfl) (by kernel_rfl) (by kernel_rfl) (fun _ _ _ h => h) (Or.inl ⟨by rfl, ?yps8⟩) g4 ?_
      case yps8 =>
        intro w hSw
        go_simp; all_goals (with_reducible rfl)
      simp only [Act.put, List.setIfInBounds_toArray, List.set_cons_zero, List.set_cons_succ]
      refine wpAnyH_take (i := 9) (oi := { dst := some 88, op := Op.move (Operand.tmp 14), type := 32, pos := "law.go:63", after := #[{ on := 8, ground := Ground.guard }], guard := some (8, false) }) (v := ?vps9) rfl (by kernel_rfl) (by kernel_rfl) (by kernel_rfl) (fun _ _ _ h => h) (Or.inl ⟨by rfl, ?yps9⟩) g4 ?_
      case yps9 =>
        intro w hSw
        go_simp; all_goals (with_reducible rfl)
      simp only [Act.put, List.setIfInBounds_toArray, List.set_cons_zero, List.set_cons_succ]
      refine wpAnyH_take (i := 10) (oi := { dst := some 89, op := Op.move (Operand.tmp 11), type := 28, pos := "law.go:63", after := #[{ on := 8, ground := Ground.guard }], guard := some (8, false) }) (v := ?vps10) rfl (by kernel_rfl) (by kernel_rfl) (by kernel_rfl) (fun _ _ _ h => h) (Or.inl ⟨by rfl, ?yps10⟩) g4 ?_
      case yps10 =>
        intro w hSw
        go_simp; all_goals (with_reducible rfl)
      simp only [Act.put, List.setIfInBounds_toArray, List.set_cons_zero, List.set_cons_succ]
      refine wpAnyH_take (i := 11) (oi := { dst := some 90, op := Op.move (Operand.tmp 16), type := 3, pos := "law.go:63", after := #[{ on := 8, ground := Ground.guard }], guard := some (8, false) }) (v := ?vps11) rfl (by kernel_rfl) (by kernel_rfl) (by kernel_rfl) (fun _ _ _ h => h) (Or.inl ⟨by rfl, ?yps11⟩) g4 ?_
      case yps11 =>
        intro w hSw
        go_simp; all_goals (with_reducible rfl)
      simp only [Act.put, List.setIfInBounds_toArray, List.set_cons_zero, List.set_cons_succ]
      refine wpAnyH_take (i := 12) (oi := { dst := some 91, op := Op.indexAddr 28 (Operand.tmp 89) (Operand.tmp 90), type := 0, pos := "law.go:63", after := #[{ on := 10, ground := Ground.data }, { on := 11, ground := Ground.data }, { on := 8, ground := Ground.guard }], guard := some (8, false) }) (v := ?vps12) rfl (by kernel_rfl) (by kernel_rfl) (by kernel_rfl) (fun _ _ _ h => h) (Or.inl ⟨by rfl, ?yps12⟩) g4 ?_
      case yps12 =>
        intro w hSw
        obtain ⟨q0, q1, q2, q3, q4⟩ := HSYM.out w (HBW.out.trans (hSw.mono HBW.out.size))
        go_simp; all_goals (with_reducible rfl)
      simp only [Act.put, List.setIfInBounds_toArray, List.set_cons_zero, List.set_cons_succ]
      refine wpAnyH_take (i := 13) (oi := { dst := some 92, op := Op.load 36 (Operand.tmp 91), type := 36, pos := "law.go:63", after := #[{ on := 12, ground := Ground.data }, { on := 8, ground := Ground.guard }], guard := some (8, false) }) (v := ?vps13) rfl (by kernel_rfl) (by kernel_rfl) (by kernel_rfl) (fun _ _ _ h => h) (Or.inl ⟨by rfl, ?yps13⟩) g4 ?_
      case yps13 =>
        intro w hSw
        obtain ⟨q0, q1, q2, q3, q4⟩ := HSYM.out w (HBW.out.trans (hSw.mono HBW.out.size))
        go_simp; all_goals (with_reducible rfl)
      simp only [Act.put, List.setIfInBounds_toArray, List.set_cons_zero, List.set_cons_succ]
      refine wpAnyH_take (i := 15) (oi := { dst := some 94, op := Op.move (Operand.tmp 2), type := 3, pos := "law.go:63", after := #[{ on := 8, ground := Ground.guard }], guard := some (8, false) }) (v := ?vps14) rfl (by kernel_rfl) (by kernel_rfl) (by kernel_rfl) (fun _ _ _ h => h) (Or.inl ⟨by rfl, ?yps14⟩) g4 ?_
      case yps14 =>
        intro w hSw
        go_simp; all_goals (with_reducible rfl)
      simp only [Act.put, List.setIfInBounds_toArray, List.set_cons_zero, List.set_cons_succ]
      refine wpAnyH_ready (rs := [14]) (by kernel_rfl) (by simp) ?_
      refine (AllReadyH.cons (o := { dst := some 93, op := Op.call { callee := Callee.value (Operand.func 9), args := #[Operand.tmp 88, Operand.tmp 92], argTypes := #[32, 36] }, type := 3, pos := "law.go:63", after := #[{ on := 9, ground := Ground.data }, { on := 13, ground := Ground.data }, { on := 8, ground := Ground.chain }, { on := 8, ground := Ground.guard }], guard := some (8, false) }) rfl (fun K hK => ?_) AllReadyH.nil)
      go_simp
      refine (dist_any C W3.heap.size 0 0 0 st r PL vR vP (s.k : Nat) s.b (s.l : Nat) (s.d : Nat) (s.r : Nat) x4 (HCO.out.below g4) HKQ.out).mono ?_
      rintro e x5 ⟨rfl, kb5⟩
      have g5 := g4.trans (kb5.mono g4.size)
      rw [HDI.out]
      go_wp2_with fail
      refine hK.out _ _ g5 (fun _ => ?_)
      clear hK K
      refine wpAnyH_take (i := 16) (oi := { dst := some 95, op := Op.binOp BinOp.gtr 3 (Operand.tmp 93) (Operand.tmp 94) 3, type := 4, pos := "law.go:63", after := #[{ on := 14, ground := Ground.data }, { on := 15, ground := Ground.data }, { on := 8, ground := Ground.guard }], guard := some (8, false) }) (v := ?vps15) rfl (by kernel_rfl) (by kernel_rfl) (by kernel_rfl) (fun _ _ _ h => h) (Or.inl ⟨by rfl, ?yps15⟩) g5 ?_
      case yps15 =>
        intro w hSw
        go_simp; all_goals (with_reducible rfl)
      simp only [Act.put, List.setIfInBounds_toArray, List.set_cons_zero, List.set_cons_succ]
      refine wpAnyH_take (i := 17) (oi := { dst := some 96, op := Op.pick (Operand.tmp 87) (Operand.const (Value.bool true)) (Operand.tmp 95), type := 4, pos := "law.go:63", after := #[{ on := 8, ground := Ground.data }, { on := 16, ground := Ground.data }], guard := none }) (v := ?vps16) rfl (by kernel_rfl) (by kernel_rfl) (by kernel_rfl) (fun _ _ _ h => h) (Or.inl ⟨by rfl, ?yps16⟩) g5 ?_
      case yps16 =>
        intro w hSw
        go_simp; all_goals (with_reducible rfl)
      simp only [Act.put, List.setIfInBounds_toArray, List.set_cons_zero, List.set_cons_succ]
      refine wpAnyH_take (i := 18) (oi := { dst := some 97, op := Op.move (Operand.tmp 96), type := 4, pos := "law.go:63", after := #[{ on := 17, ground := Ground.data }, { on := 14, ground := Ground.chain }], guard := none }) (v := ?vps17) rfl (by kernel_rfl) (by kernel_rfl) (by kernel_rfl) (fun _ _ _ h => h) (Or.inl ⟨by rfl, ?yps17⟩) g5 ?_
      case yps17 =>
        intro w hSw
        go_simp; all_goals (with_reducible rfl)
      simp only [Act.put, List.setIfInBounds_toArray, List.set_cons_zero, List.set_cons_succ]
      refine wpAnyH_take (i := 19) (oi := { dst := some 98, op := Op.move (Operand.tmp 11), type := 28, pos := "law.go:63", after := #[{ on := 18, ground := Ground.guard }], guard := some (18, false) }) (v := ?vps18) rfl (by kernel_rfl) (by kernel_rfl) (by kernel_rfl) (fun _ _ _ h => h) (Or.inl ⟨by rfl, ?yps18⟩) g5 ?_
      case yps18 =>
        intro w hSw
        go_simp; all_goals (with_reducible rfl)
      simp only [Act.put, List.setIfInBounds_toArray, List.set_cons_zero, List.set_cons_succ]
      refine wpAnyH_take (i := 20) (oi := { dst := some 99, op := Op.move (Operand.tmp 16), type := 3, pos := "law.go:63", after := #[{ on := 18, ground := Ground.guard }], guard := some (18, false) }) (v := ?vps19) rfl (by kernel_rfl) (by kernel_rfl) (by kernel_rfl) (fun _ _ _ h => h) (Or.inl ⟨by rfl, ?yps19⟩) g5 ?_
      case yps19 =>
        intro w hSw
        go_simp; all_goals (with_reducible rfl)
      simp only [Act.put, List.setIfInBounds_toArray, List.set_cons_zero, List.set_cons_succ]
      refine wpAnyH_take (i := 21) (oi := { dst := some 100, op := Op.indexAddr 28 (Operand.tmp 98) (Operand.tmp 99), type := 0, pos := "law.go:63", after := #[{ on := 19, ground := Ground.data }, { on := 20, ground := Ground.data }, { on := 18, ground := Ground.guard }], guard := some (18, false) }) (v := ?vps20) rfl (by kernel_rfl) (by kernel_rfl) (by kernel_rfl) (fun _ _ _ h => h) (Or.inl ⟨by rfl, ?yps20⟩) g5 ?_
      case yps20 =>
        intro w hSw
        obtain ⟨q0, q1, q2, q3, q4⟩ := HSYM.out w (HBW.out.trans (hSw.mono HBW.out.size))
        go_simp; all_goals (with_reducible rfl)
      simp only [Act.put, List.setIfInBounds_toArray, List.set_cons_zero, List.set_cons_succ]
      refine wpAnyH_take (i := 22) (oi := { dst := some 101, op := Op.load 36 (Operand.tmp 100), type := 36, pos := "law.go:63", after := #[{ on := 21, ground := Ground.data }, { on := 18, ground := Ground.guard }], guard := some (18, false) }) (v := ?vps21) rfl (by kernel_rfl) (by kernel_rfl) (by kernel_rfl) (fun _ _ _ h => h) (Or.inl ⟨by rfl, ?yps21⟩) g5 ?_
      case yps21 =>
        intro w hSw
        obtain ⟨q0, q1, q2, q3, q4⟩ := HSYM.out w (HBW.out.trans (hSw.mono HBW.out.size))
        go_simp; all_goals (with_reducible rfl)
      simp only [Act.put, List.setIfInBounds_toArray, List.set_cons_zero, List.set_cons_succ]
      refine wpAnyH_take (i := 23) (oi := { dst := some 102, op := Op.move (Operand.tmp 11), type := 28, pos := "law.go:63", after := #[{ on := 18, ground := Ground.guard }], guard := some (18, false) }) (v := ?vps22) rfl (by kernel_rfl) (by kernel_rfl) (by kernel_rfl) (fun _ _ _ h => h) (Or.inl ⟨by rfl, ?yps22⟩) g5 ?_
      case yps22 =>
        intro w hSw
        go_simp; all_goals (with_reducible rfl)
      simp only [Act.put, List.setIfInBounds_toArray, List.set_cons_zero, List.set_cons_succ]
      refine wpAnyH_take (i := 24) (oi := { dst := some 103, op := Op.move (Operand.tmp 16), type := 3, pos := "law.go:63", after := #[{ on := 18, ground := Ground.guard }], guard := some (18, false) }) (v := ?vps23) rfl (by kernel_rfl) (by kernel_rfl) (by kernel_rfl) (fun _ _ _ h => h) (Or.inl ⟨by rfl, ?yps23⟩) g5 ?_
      case yps23 =>
        intro w hSw
        go_simp; all_goals (with_reducible rfl)
      simp only [Act.put, List.setIfInBounds_toArray, List.set_cons_zero, List.set_cons_succ]
      refine wpAnyH_take (i := 25) (oi := { dst := some 104, op := Op.indexAddr 28 (Operand.tmp 102) (Operand.tmp 103), type := 0, pos := "law.go:63", after := #[{ on := 23, ground := Ground.data }, { on := 24, ground := Ground.data }, { on := 18, ground := Ground.guard }], guard := some (18, false) }) (v := ?vps24) rfl (by kernel_rfl) (by kernel_rfl) (by kernel_rfl) (fun _ _ _ h => h) (Or.inl ⟨by rfl, ?yps24⟩) g5 ?_
      case yps24 =>
        intro w hSw
        obtain ⟨q0, q1, q2, q3, q4⟩ := HSYM.out w (HBW.out.trans (hSw.mono HBW.out.size))
        go_simp; all_goals (with_reducible rfl)
      simp only [Act.put, List.setIfInBounds_toArray, List.set_cons_zero, List.set_cons_succ]
      refine wpAnyH_take (i := 26) (oi := { dst := some 105, op := Op.load 36 (Operand.tmp 104), type := 36, pos := "law.go:63", after := #[{ on := 25, ground := Ground.data }, { on := 18, ground := Ground.guard }], guard := some (18, false) }) (v := ?vps25) rfl (by kernel_rfl) (by kernel_rfl) (by kernel_rfl) (fun _ _ _ h => h) (Or.inl ⟨by rfl, ?yps25⟩) g5 ?_
      case yps25 =>
        intro w hSw
        obtain ⟨q0, q1, q2, q3, q4⟩ := HSYM.out w (HBW.out.trans (hSw.mono HBW.out.size))
        go_simp; all_goals (with_reducible rfl)
      simp only [Act.put, List.setIfInBounds_toArray, List.set_cons_zero, List.set_cons_succ]
      refine wpAnyH_ready (rs := [27]) (by kernel_rfl) (by simp) ?_
      refine (AllReadyH.cons (o := { dst := some 106, op := Op.call { callee := Callee.value (Operand.func 10), args := #[Operand.tmp 105], argTypes := #[36] }, type := 36, pos := "law.go:63", after := #[{ on := 26, ground := Ground.data }, { on := 18, ground := Ground.chain }, { on := 18, ground := Ground.guard }], guard := some (18, false) }) rfl (fun K hK => ?_) AllReadyH.nil)
      go_simp
      refine (plain_any (s.k : Nat) s.b (s.l : Nat) (s.d : Nat) (s.r : Nat) x5).mono ?_
      rintro e x6 ⟨rfl, kb6⟩
      rw [HPL.out]
      have g6 := g5.trans (kb6.mono g5.size)
      go_wp2_with fail
      refine hK.out _ _ g6 (fun _ => ?_)
      clear hK K
      refine wpAnyH_ready (rs := [28]) (by kernel_rfl) (by simp) ?_
      refine (AllReadyH.cons (o := { dst := some 107, op := Op.binOp BinOp.neq 36 (Operand.tmp 101) (Operand.tmp 106) 36, type := 4, pos := "law.go:63", after := #[{ on := 22, ground := Ground.data }, { on := 27, ground := Ground.data }, { on := 18, ground := Ground.guard }], guard := some (18, false) }) rfl (fun K hK => ?_) AllReadyH.nil)
      go_simp
      refine hK.out _ _ g6 (fun _ => ?_)
      clear hK K
      refine wpAnyH_take (i := 29) (oi := { dst := some 108, op := Op.pick (Operand.tmp 97) (Operand.const (Value.bool true)) (Operand.tmp 107), type := 4, pos := "law.go:63", after := #[{ on := 18, ground := Ground.data }, { on := 28, ground := Ground.data }], guard := none }) (v := ?vps26) rfl (by kernel_rfl) (by kernel_rfl) (by kernel_rfl) (fun _ _ _ h => h) (Or.inl ⟨by rfl, ?yps26⟩) g6 ?_
      case yps26 =>
        intro w hSw
        go_simp; all_goals (with_reducible rfl)
      simp only [Act.put, List.setIfInBounds_toArray, List.set_cons_zero, List.set_cons_succ]
      refine wpAnyH_done (by kernel_rfl) ?_ _

      have hb36 := HBW.out.trans (g6.mono HBW.out.size)
      have HG6 := Lib.hid g6
      have HC6 := Lib.hid (HCO.out.below g6)
      clear hS g4 g5 g6 kb4 kb5 kb6 hdr
      obtain ⟨q0, q1, q2, q3, q4⟩ := HSYM.out x6 hb36
      clear hb36
      go_wp2_with fail
      refine (dist_any C W3.heap.size 0 0 0 st r PL vR vP (s.k : Nat) s.b (s.l : Nat) (s.d : Nat) (s.r : Nat) x6 HC6.out HKQ.out).mono ?_
      rintro e x7 ⟨rfl, kb7⟩
      rw [HDI.out]
      have g7 := HG6.out.trans (kb7.mono HG6.out.size)
      have hb37 := HBW.out.trans (g7.mono HBW.out.size)
      have HG7 := Lib.hid g7
      have HB37 := Lib.hid hb37
      clear q0 q1 q2 q3 q4 kb7 g7
      obtain ⟨q0, q1, q2, q3, q4⟩ := HSYM.out x7 hb37
      clear hb37
      go_wp2_with fail
      refine (becomes_any C W3.heap.size 0 0 0 st r PL vR vP s x7 (HCO.out.below HG7.out) HB37.out.size HCS.out.2.1 HCS.out.2.2 HSTD.out.k HSTD.out.q).mono ?_
      rintro e x8 ⟨vR', rfl, hco8, hg8⟩
      have hb38 := below_grown HB37.out hg8 HB37.out.size (fun g e => by injection e with e; subst e; exact HCGE.out)
      have ho7 := HO.out.below HG7.out
      have hfr := ho7.from_base
      have ho8 : Own w4.heap.size x8 (.slice AH p cH) (D.take p) := World.ownsRow.kept ho7 hg8 (.inr (fun h => by have h1 := (hfr C h).1; have h2 := HCLT.out; omega))
      have HS8 := Lib.hid hg8.size
      have HC8 := Lib.hid hco8
      have HB38 := Lib.hid hb38
      obtain ⟨_, _, e8, hc8, _, hB8⟩ := ho8.read
      injection e8 with e8 e8n e9
      clear e8n
      subst e8
      subst e9
      have HGR : Hid (Calls Try.prog 12 #[.slice AH p cH, SyV (s.k : Nat) s.b (s.l : Nat) (s.d : Nat) (s.r : Nat), .int .i64 (bk : Nat)] x8 (GrowDone (D.take (p + max s.l 1)) x8)) := Lib.hid (by
        have h := grow_any AH (D.take p) cH (s.k : Nat) s.b s.l (s.d : Nat) (s.r : Nat) bk x8 hB8 hc8 (by rw [HLT.out]; have := HD300.out; omega) (by have := HSTD.out.short; omega) (fun h => by rw [HLT.out]; exact HBK.out.1 h)
        rw [HLT.out, HBK.out.2] at h
        exact h)
      clear hco8 hg8 ho7 ho8 hfr hc8 hB8 q0 q1 q2 q3 q4
      obtain ⟨q0, q1, q2, q3, q4⟩ := HSYM.out x8 hb38
      clear hb38
      go_wp2_with fail
      refine HGR.out.mono ?_
      rintro e x9 ⟨v9, rfl, ho9, hb9⟩
      have HO9 := Lib.hid (ho9.weaken (Nat.le_trans HWS.out (Nat.le_trans HG7.out.size HS8.out)))
      have HS89 := Lib.hid (Nat.le_trans HS8.out hb9.size)
      have HB39 := Lib.hid (HB38.out.trans (hb9.mono HB38.out.size))
      have HC9 := Lib.hid (HC8.out.below hb9)
      clear ho9 hb9 q0 q1 q2 q3 q4
      go_wp2_with fail
      exact ⟨⟨n + 1, p + max s.l 1, afterS s r, _, vR', v9, rfl, by go_num, by omega, HSTD.out.grows, HNX, Lib.hid ⟨HC9.out, stateAfter_in HCS.out.2.1 HCS.out.2.2⟩, HO9, HB39, Lib.hid (Nat.le_trans HWS.out (Nat.le_trans HG7.out.size HS89.out))⟩, by simp [intOf]; omega⟩
    · have hnl2 : n = L.length := by omega
      have hpD : p = D.length := by
        rcases Nat.lt_or_ge p D.length with h | h
        · exfalso
          have h2 := HDR.out
          rw [symsOf_step h, hnl2, List.drop_length] at h2
          simp at h2
        · omega
      subst hnl2
      have hoF := HO.out
      rw [hpD, List.take_length] at hoF
      obtain ⟨AH, cH, rfl, hcH, hmH, hBH⟩ := hoF.read
      have k1 := run_str hBH cH
      have k2 := run_str (HBY.out.below (HB3.out.trans (HBW.out.mono HB3.out.size))) c
      clear hoF hcH hmH hBH
      go_wp2_with fail
      refine (knows_any _).mono ?_
      rintro e x7 ⟨rfl, kb7⟩
      go_wp2_with fail
      go_ret
      exact ⟨rfl, (HB3.out.trans (HBW.out.mono HB3.out.size)).trans (kb7.mono (HB3.out.trans (HBW.out.mono HB3.out.size)).size)⟩
end Go.Proofs.Ytnglkipjiojipaa
