/- Several texts in one: RePut, RePutM. -/
import Derived.Test.YtiodlhieaajcgaaReSymAll
import Derived.Deep.RegionHeld3
/- The reference's Put: a literal. -/
namespace Go.Proofs.Ytiodlhieaajcgaa
open Go.RowKit

theorem RE.lt {C base h N : Nat} {lc lp pb st : Int} {r : R4} {x : (Nat → Nat) × Rc.St} {Y : List Nat} {w : World} (hM : RE w C base h N lc lp pb st r x Y) : ∀ i ∈ Y, i < w.heap.size := by
  obtain ⟨Pl, vR, gR, gP, capP, o, cap, hC, hgR, hE, hPl, hP, rfl⟩ := hM.ex
  intro i hi
  simp only [List.mem_cons, List.not_mem_nil, or_false] at hi
  rcases hi with rfl | rfl | rfl | rfl | rfl
  · exact hC.lt
  · exact (hC.reps.lt _ hgR).2
  · exact (hC.ps.lt _ rfl).2
  · exact (Array.getElem?_eq_some_iff.1 hE.blk).1
  · obtain ⟨cs, hcs⟩ := hE.row
    exact (Array.getElem?_eq_some_iff.1 hcs).1
theorem RE.below {C base h N : Nat} {lc lp pb st : Int} {r : R4} {x : (Nat → Nat) × Rc.St} {Y : List Nat} {w w1 : World} (hM : RE w C base h N lc lp pb st r x Y) (hb : Below w.heap.size w w1) : RE w1 C base h N lc lp pb st r x Y := by
  obtain ⟨Pl, vR, gR, gP, capP, o, cap, hC, hgR, hE, hPl, hP, hY⟩ := hM.ex
  obtain ⟨cs, hcs⟩ := hE.row
  exact ⟨⟨Pl, vR, gR, gP, capP, o, cap, hC.below hb, hgR, hE.keep2 (hb.block _ (Array.getElem?_eq_some_iff.1 hE.blk).1) (hb.block _ (Array.getElem?_eq_some_iff.1 hcs).1), hPl, hP, hY⟩, hM.fair⟩
theorem wentR_below {C base h N : Nat} {lc lp pb st' : Int} {r' : R4} {x' : (Nat → Nat) × Rc.St} {Y : List Nat} {w w1 w2 : World} (hb : Below w.heap.size w w1) (hh : WentR C base h N lc lp pb st' r' x' Y w1 w2) : WentR C base h N lc lp pb st' r' x' Y w w2 :=
  WentR.trans (Only.of_below hb) (fun _ h => .inl h) hh
set_option maxRecDepth 100000 in
set_option maxHeartbeats 2000000 in
theorem reput_lit {g C base h N lc lp pb st : Nat} {r : R4} {x : (encIo g).S} {Y : List Nat} {w : World} (hM : RE w C base h N (lc : Nat) (lp : Nat) (pb : Nat) (st : Nat) r x Y) (hlc : lc ≤ 4) (hlp : lp ≤ 4) (hpb : pb ≤ 4) (hst : st < 12) (hr1 : 1 ≤ r.1) (hr2 : r.1 ≤ 4294967296) {k : Nat} (hok : (encIo g).ok x.2 (k + 21)) (A : Option Addr) (H : List UInt8) (c : Nat) (hB : Bytes w A H) (hHY : ∀ a, A = some a → a.block ∉ Y) (hc : H.length ≤ c) (hH : H.length ≤ 1000000000)
    (hN : N = 2180 + 768 * 2 ^ (lc + lp)) (hN2 : N ≤ 1000000) (b : UInt8) (l d q : Int) {z : (encIo g).S} (hz : (Md.lit (encIo g) lc lp st r.1 H (b.toNat : Nat) ((encIo g).bitAt (16 * st + H.length % 2 ^ pb) false x).2).2 = z) :
    Calls Try.prog 14 #[PF C, PF h, .slice A H.length c, SyV 0 b l d q] w (MAnd ((encIo g).ok z.2 k) (RDone (.tuple #[]) C base h N (lc : Nat) (lp : Nat) (pb : Nat) (stateAfter (st : Nat) 0 l) r z Y w)) := by
  obtain ⟨Q, hQ⟩ : ∃ Q, ((encIo g).ok z.2 k) = Q := ⟨_, rfl⟩
  rw [hQ]
  have HQ := Lib.hid hQ
  have hT1 : 1 ≤ 2 ^ pb := Nat.one_le_two_pow
  have hT2 : 2 ^ pb ≤ 2 ^ 4 := Nat.pow_le_pow_right (by omega) hpb
  have HTW := Lib.hid (fun W => two_any pb (by omega) W)
  obtain ⟨T, hT⟩ : ∃ T, 2 ^ pb = T := ⟨_, rfl⟩
  simp only [hT] at hT1 hT2 hz HTW
  have hp16 : H.length % T < 16 := by have := Nat.mod_lt H.length hT1; omega
  have hmod : (H.length : Int) % ((T : Nat) : Int) = ((H.length % T : Nat) : Int) := by omega
  obtain ⟨p, hp⟩ : ∃ p, H.length % T = p := ⟨_, rfl⟩
  rw [hp] at hz hp16 hmod
  obtain ⟨y, hy⟩ : ∃ y, ((encIo g).bitAt (16 * st + p) false x).2 = y := ⟨_, rfl⟩
  rw [hy] at hz
  have HY1 := Lib.hid hy
  have HZ := Lib.hid hz
  have HN := Lib.hid hN
  have HM := Lib.hid hM
  have HOK := Lib.hid hok
  have HB := Lib.hid hB
  have HHY := Lib.hid hHY
  have HLT := Lib.hid hM.lt
  have HST := Lib.hid hst
  have HP16 := Lib.hid hp16
  have HS01 : Hid ((0 : Int) ≤ (st : Nat) ∧ ((st : Nat) : Int) ≤ 11) := Lib.hid (by omega)
  have HL := Lib.hid (And.intro hlc hlp)
  have HR1 := Lib.hid (And.intro hr1 hr2)
  have hTi : (T : Int) ≤ 16 := by omega
  have hTi1 : (1 : Int) ≤ (T : Int) := by omega
  have hTne : ((T : Int) == 0) = false := beq_eq_false_iff_ne.2 (by omega)
  have hci : (H.length : Int) ≤ (c : Int) := by omega
  have hHi : (H.length : Int) ≤ 1000000000 := by omega
  have hpi : (p : Int) < 16 := by omega
  have HMOD := Lib.hid hmod
  have hbv : ((b.toNat : Nat) : Int) < 256 := by have := b.toNat_lt; omega
  clear hQ hT hp hz hy hN hM hok hB hHY hr1 hr2 hT2 hp16 hst hmod
  go_enter Try.func14, Try.ntmps14
  go_upto_region 1 with fail
  obtain ⟨W1, hW1⟩ : ∃ W1, w.alloc (.cells #[.int .i64 0, .int .u8 (b.toNat : Nat), .int .i64 l, .int .i64 d, .int .i64 q] 38) = W1 := ⟨_, rfl⟩
  rw [hW1]
  obtain ⟨y0, y1, y2, y3, y4, hbb⟩ := sy_box hW1
  have hM1 := HM.out.below hbb
  obtain ⟨_, _, c2, _⟩ := hM1.heads
  have HM1 := Lib.hid hM1
  have HBB := Lib.hid hbb
  have HSY := Lib.hid (And.intro y0 (And.intro y1 (And.intro y2 (And.intro y3 y4))))
  clear hW1 hbb hM1 y0 y1 y2 y3 y4
  have HTW1 := Lib.hid (HTW.out W1)
  go_wp2_with fail
  refine HTW1.out.mono ?_
  rintro e w1 ⟨rfl, rfl⟩
  go_upto_region 2 with fail
  rw [HMOD.out]
  have y0 := HSY.out.1
  have HMA := Lib.hid (rmatch_any HM1.out HST.out p HP16.out)
  obtain ⟨hb, okb⟩ := rebit_is HM1.out (k := k + 18) HOK.out (i := 16 * st + p) (by have := HN.out; have := HST.out; have := HP16.out; omega) false HY1.out
  have HBI := Lib.hid hb
  have HOK2 := Lib.hid okb
  clear hb okb
  go_wp2_with fail
  refine HMA.out.mono ?_
  rintro e w1 ⟨rfl, rfl⟩
  go_wp2_with fail
  refine HBI.out.mono ?_
  rintro e w2 ⟨rfl, Y2, hM2, hon2, hY2⟩
  obtain ⟨q0, q1, q2, q3, q4⟩ := HSY.out
  have hny : w.heap.size ∉ Y := fun h => Nat.lt_irrefl _ (HLT.out _ h)
  have y1 := cell_only hon2 hny q1
  have hB2 : Bytes w2 A H := (HB.out.below HBB.out).keep hon2.size (fun a ha hal => by
    cases A with
    | none => cases ha
    | some A0 =>
      injection ha with ha
      have eb := hon2.block _ hal (by rw [← ha]; exact HHY.out _ rfl)
      unfold World.cell?
      rw [eb])
  have HLI := Lib.hid (relit_any hM2 HL.out.1 HL.out.2 HST.out HR1.out.1 HR1.out.2 (k := k) HOK2.out A H c hB2 (by omega) (by omega) HN.out hN2 b HZ.out)
  have HON2 := Lib.hid hon2
  have HY2 := Lib.hid hY2
  clear hM2 hon2 hY2 hB2 q0 q1 q2 q3 q4
  go_wp2_with fail
  refine HLI.out.mono ?_
  rintro e w3 ⟨⟨rfl, Y3, hM3, hon3, hY3⟩, ok3⟩
  have HWT : Hid (Only Y W1 w3 ∧ ∀ i ∈ Y3, i ∈ Y ∨ W1.heap.size ≤ i) := Lib.hid ⟨HON2.out.trans hon3 HY2.out, fun i hi => by
    rcases hY3 i hi with h | h
    · exact HY2.out i h
    · exact .inr (Nat.le_trans HON2.out.size h)⟩
  obtain ⟨q0, q1, q2, q3, q4⟩ := HSY.out
  have z0 := cell_only HWT.out.1 hny q0
  have z1 := cell_only HWT.out.1 hny q1
  have z2 := cell_only HWT.out.1 hny q2
  have z3 := cell_only HWT.out.1 hny q3
  have z4 := cell_only HWT.out.1 hny q4
  obtain ⟨Pl, vR, vP, hC3, hfin⟩ := hM3.bec
  have HBE := Lib.hid (becomes_lit2 C base (lc : Nat) (lp : Nat) (pb : Nat) (st : Nat) r Pl vR vP b l d q w3 hC3 HS01.out.1 HS01.out.2)
  have HFIN := Lib.hid hfin
  have HOK3 := Lib.hid ok3
  clear hM3 hon3 hY3 ok3 hC3 hfin q0 q1 q2 q3 q4
  go_wp2_with fail
  refine HBE.out.mono ?_
  intro e w4 h4
  obtain ⟨rfl, Y4, hM4, hon4, hY4⟩ := HFIN.out _ _ _ _ h4
  go_wp2_with fail
  refine bodyPost_ret_by (results_none rfl _ _ _) rfl ?_
  exact ⟨⟨rfl, wentR_below HBB.out (WentR.trans HWT.out.1 HWT.out.2 ⟨Y4, hM4, hon4, hY4⟩)⟩, by rw [← HQ.out]; exact HOK3.out⟩
end Go.Proofs.Ytiodlhieaajcgaa

/- The reference's Put: a match. -/
namespace Go.Proofs.Ytiodlhieaajcgaa
open Go.RowKit

set_option maxRecDepth 100000 in
set_option maxHeartbeats 2000000 in
theorem reput_match {g C base h N lc lp pb st : Nat} {r : R4} {x : (encIo g).S} {Y : List Nat} {w : World} (hM : RE w C base h N (lc : Nat) (lp : Nat) (pb : Nat) (st : Nat) r x Y) (hpb : pb ≤ 4) (hst : st < 12) (hbase : base ≤ w.heap.size) {k : Nat} (hok : (encIo g).ok x.2 (k + 82)) (A : Option Addr) (H : List UInt8) (c : Nat) (hc : H.length ≤ c) (hH : H.length ≤ 1000000000)
    (hN1 : 2180 ≤ N) (hN2 : N ≤ 1000000) (b : UInt8) (l d : Nat) (q : Int) (h2 : 2 ≤ l) (h3 : l ≤ 273) (h4 : 1 ≤ d) (h5 : d ≤ 4294967295) {z : (encIo g).S} (hz : (Md.dist (encIo g) l (d : Nat) (Md.len (encIo g) 432 (H.length % 2 ^ pb) (l : Nat) ((encIo g).bitAt (192 + st) false ((encIo g).bitAt (16 * st + H.length % 2 ^ pb) true x).2).2).2).2 = z) :
    Calls Try.prog 14 #[PF C, PF h, .slice A H.length c, SyV 1 b (l : Nat) (d : Nat) q] w (MAnd ((encIo g).ok z.2 k) (RDone (.tuple #[]) C base h N (lc : Nat) (lp : Nat) (pb : Nat) (stateAfter (st : Nat) 1 (l : Nat)) ((d : Nat), r.1, r.2.1, r.2.2.1) z Y w)) := by
  obtain ⟨Q, hQ⟩ : ∃ Q, ((encIo g).ok z.2 k) = Q := ⟨_, rfl⟩
  rw [hQ]
  have HQ := Lib.hid hQ
  have hT1 : 1 ≤ 2 ^ pb := Nat.one_le_two_pow
  have hT2 : 2 ^ pb ≤ 2 ^ 4 := Nat.pow_le_pow_right (by omega) hpb
  have HTW := Lib.hid (fun W => two_any pb (by omega) W)
  obtain ⟨T, hT⟩ : ∃ T, 2 ^ pb = T := ⟨_, rfl⟩
  simp only [hT] at hT1 hT2 hz HTW
  have hp16 : H.length % T < 16 := by have := Nat.mod_lt H.length hT1; omega
  have hmod : (H.length : Int) % ((T : Nat) : Int) = ((H.length % T : Nat) : Int) := by omega
  obtain ⟨p, hp⟩ : ∃ p, H.length % T = p := ⟨_, rfl⟩
  rw [hp] at hz hp16 hmod
  obtain ⟨y, hy⟩ : ∃ y, ((encIo g).bitAt (16 * st + p) true x).2 = y := ⟨_, rfl⟩
  rw [hy] at hz
  have HY1 := Lib.hid hy
  obtain ⟨y2, hy2⟩ : ∃ y2, ((encIo g).bitAt (192 + st) false y).2 = y2 := ⟨_, rfl⟩
  rw [hy2] at hz
  have HY2 := Lib.hid hy2
  obtain ⟨y3, hy3⟩ : ∃ y3, (Md.len (encIo g) 432 p (l : Nat) y2).2 = y3 := ⟨_, rfl⟩
  rw [hy3] at hz
  have HY3 := Lib.hid hy3
  have HZ := Lib.hid hz
  have HN := Lib.hid (And.intro hN1 hN2)
  have HM := Lib.hid hM
  have HOK := Lib.hid hok
  have HLT := Lib.hid hM.lt
  have HST := Lib.hid hst
  have HP16 := Lib.hid hp16
  have HBA := Lib.hid hbase
  have hTi : (T : Int) ≤ 16 := by omega
  have hTi1 : (1 : Int) ≤ (T : Int) := by omega
  have hTne : ((T : Int) == 0) = false := beq_eq_false_iff_ne.2 (by omega)
  have hci : (H.length : Int) ≤ (c : Int) := by omega
  have hHi : (H.length : Int) ≤ 1000000000 := by omega
  have hpi : (p : Int) < 16 := by omega
  have HMOD := Lib.hid hmod
  have hbv : ((b.toNat : Nat) : Int) < 256 := by have := b.toNat_lt; omega
  have hli : (l : Int) ≤ 273 := by omega
  have hdi : (d : Int) ≤ 4294967295 := by omega
  have HLD := Lib.hid (And.intro h2 (And.intro h3 (And.intro h4 h5)))
  clear hQ hT hp hz hy hy2 hy3 hN1 hN2 hM hok hT2 hp16 hst hmod hbase h2 h3 h4 h5
  go_enter Try.func14, Try.ntmps14
  go_upto_region 1 with fail
  obtain ⟨W1, hW1⟩ : ∃ W1, w.alloc (.cells #[.int .i64 1, .int .u8 (b.toNat : Nat), .int .i64 l, .int .i64 d, .int .i64 q] 38) = W1 := ⟨_, rfl⟩
  rw [hW1]
  obtain ⟨y0, y1, y2', y3, y4, hbb⟩ := sy_box hW1
  have hM1 := HM.out.below hbb
  obtain ⟨_, _, c2, _⟩ := hM1.heads
  have HM1 := Lib.hid hM1
  have HBB := Lib.hid hbb
  have HSY := Lib.hid (And.intro y0 (And.intro y1 (And.intro y2' (And.intro y3 y4))))
  have hny : w.heap.size ∉ Y := fun h => Nat.lt_irrefl _ (HLT.out _ h)
  clear hW1 hbb hM1 y0 y1 y2' y3 y4
  have HTW1 := Lib.hid (HTW.out W1)
  go_wp2_with fail
  refine HTW1.out.mono ?_
  rintro e w1 ⟨rfl, rfl⟩
  go_upto_region 2 with fail
  rw [HMOD.out]
  have y0 := HSY.out.1
  have HMA := Lib.hid (rmatch_any HM1.out HST.out p HP16.out)
  obtain ⟨hb, okb⟩ := rebit_is HM1.out (k := k + 79) HOK.out (i := 16 * st + p) (by have := HN.out; have := HST.out; have := HP16.out; omega) true HY1.out
  have HBI := Lib.hid hb
  have HOK2 := Lib.hid okb
  clear hb okb
  go_wp2_with fail
  refine HMA.out.mono ?_
  rintro e w1 ⟨rfl, rfl⟩
  go_wp2_with fail
  refine HBI.out.mono ?_
  rintro e w2 ⟨rfl, Y2, hM2, hon2, hY2⟩
  have HRE := Lib.hid (rrep_any hM2 HST.out)
  obtain ⟨hb, okb⟩ := rebit_is hM2 (k := k + 78) HOK2.out (i := 192 + st) (by have := HN.out; have := HST.out; omega) false HY2.out
  have HBI2 := Lib.hid hb
  have HOK3 := Lib.hid okb
  have HON2 := Lib.hid hon2
  have HYY2 := Lib.hid hY2
  clear hb okb hM2 hon2 hY2
  go_wp2_with fail
  refine HRE.out.mono ?_
  rintro e w3 ⟨rfl, rfl⟩
  go_wp2_with fail
  refine HBI2.out.mono ?_
  rintro e w3 ⟨rfl, hw3⟩
  obtain ⟨Y3, hM3, hon3, hY3⟩ := WentR.trans HON2.out HYY2.out hw3
  clear hw3
  have HLEN := Lib.hid (relen_any (hM3.drewN 1) (k := k + 60) HOK3.out (.inl rfl) HP16.out HLD.out.1 HLD.out.2.1 HN.out.1 HN.out.2 HY3.out)
  have g3 := cell_only hon3 hny HSY.out.2.2.1
  have HON3 := Lib.hid hon3
  have HYY3 := Lib.hid hY3
  have HM3 := Lib.hid hM3
  clear hM3 hon3 hY3
  go_upto_region 24 with fail
  refine wp_region_held_drew (S := fun w2 => w2.cell? ⟨w.heap.size, 2, none⟩ = some (.int .i64 (l : Nat))) (by kernel_rfl) g3 (fun hS => ?_)
  refine wpAnyH_take (i := 0) (oi := { dst := some 109, op := Op.move (Operand.tmp 0), type := 32, pos := "ref.go:230", after := #[], guard := none }) (v := ?vrp1) rfl (by kernel_rfl) (by kernel_rfl) (by kernel_rfl) (fun _ _ _ h => h) (Or.inl ⟨by rfl, ?yrp1⟩) hS ?_
  case yrp1 =>
    intro w hSw
    go_simp; all_goals (with_reducible rfl)
  simp only [Act.put, List.setIfInBounds_toArray, List.set_cons_zero, List.set_cons_succ]
  refine wpAnyH_take (i := 1) (oi := { dst := some 110, op := Op.move (Operand.tmp 1), type := 34, pos := "ref.go:230", after := #[], guard := none }) (v := ?vrp2) rfl (by kernel_rfl) (by kernel_rfl) (by kernel_rfl) (fun _ _ _ h => h) (Or.inl ⟨by rfl, ?yrp2⟩) hS ?_
  case yrp2 =>
    intro w hSw
    go_simp; all_goals (with_reducible rfl)
  simp only [Act.put, List.setIfInBounds_toArray, List.set_cons_zero, List.set_cons_succ]
  refine wpAnyH_take (i := 3) (oi := { dst := some 112, op := Op.move (Operand.tmp 8), type := 3, pos := "ref.go:230", after := #[], guard := none }) (v := ?vrp3) rfl (by kernel_rfl) (by kernel_rfl) (by kernel_rfl) (fun _ _ _ h => h) (Or.inl ⟨by rfl, ?yrp3⟩) hS ?_
  case yrp3 =>
    intro w hSw
    go_simp; all_goals (with_reducible rfl)
  simp only [Act.put, List.setIfInBounds_toArray, List.set_cons_zero, List.set_cons_succ]
  refine wpAnyH_take (i := 4) (oi := { dst := some 113, op := Op.fieldAddr 38 (Operand.tmp 7) 2, type := 0, pos := "ref.go:230", after := #[], guard := none }) (v := ?vrp4) rfl (by kernel_rfl) (by kernel_rfl) (by kernel_rfl) (fun _ _ _ h => h) (Or.inl ⟨by rfl, ?yrp4⟩) hS ?_
  case yrp4 =>
    intro w hSw
    go_simp; all_goals (with_reducible rfl)
  simp only [Act.put, List.setIfInBounds_toArray, List.set_cons_zero, List.set_cons_succ]
  refine wpAnyH_take (i := 5) (oi := { dst := some 114, op := Op.load 3 (Operand.tmp 113), type := 3, pos := "ref.go:230", after := #[{ on := 4, ground := Ground.data }], guard := none }) (v := ?vrp5) rfl (by kernel_rfl) (by kernel_rfl) (by kernel_rfl) (fun _ _ _ h => h) (Or.inl ⟨by rfl, ?yrp5⟩) hS ?_
  case yrp5 =>
    intro w hSw
    have q1 := hSw
    go_simp; all_goals (with_reducible rfl)
  simp only [Act.put, List.setIfInBounds_toArray, List.set_cons_zero, List.set_cons_succ]
  refine wpAnyH_ready (rs := [2]) (by kernel_rfl) (by simp) ?_
  refine (AllReadyH.cons (o := { dst := some 111, op := Op.call { callee := Callee.value (Operand.func 34), args := #[Operand.const (Value.bool false)], argTypes := #[4] }, type := 3, pos := "ref.go:230", after := #[], guard := none }) rfl (fun K hK => ?_) AllReadyH.nil)
  go_simp
  refine (rlengths_no _).mono ?_
  rintro e x3 ⟨rfl, rfl⟩
  go_wp2_with fail
  refine hK.out _ _ hS (fun _ => ?_)
  clear hK K
  refine wpAnyH_ready (rs := [6]) (by kernel_rfl) (by simp) ?_
  refine (AllReadyH.cons (o := { dst := some 115, op := Op.call { callee := Callee.value (Operand.func 33), args := #[Operand.tmp 109, Operand.tmp 110, Operand.tmp 111, Operand.tmp 112, Operand.tmp 114], argTypes := #[32, 34, 3, 3, 3] }, type := 0, pos := "ref.go:230", after := #[{ on := 0, ground := Ground.data }, { on := 1, ground := Ground.data }, { on := 2, ground := Ground.data }, { on := 3, ground := Ground.data }, { on := 5, ground := Ground.data }, { on := 2, ground := Ground.chain }], guard := none }) rfl (fun K hK => ?_) AllReadyH.nil)
  go_simp
  refine HLEN.out.mono ?_
  rintro e x4 ⟨⟨rfl, hw4⟩, ok4⟩
  obtain ⟨Y4, hM4, hon4, hY4⟩ := WentR.trans HON3.out HYY3.out (wentR_undrew hw4)
  have HON4 := Lib.hid hon4
  have HYY4 := Lib.hid hY4
  have HM4 := Lib.hid hM4
  have HOK4 := Lib.hid ok4
  have g4 := cell_only HON4.out hny HSY.out.2.2.1
  clear hw4 ok4 hM4 hon4 hY4
  go_wp2_with fail
  refine hK.out _ _ g4 (fun _ => ?_)
  clear hK K
  refine wpAnyH_done (by kernel_rfl) ?_ _

  clear hS g3 HLEN
  have g5 := cell_only HON4.out hny HSY.out.2.2.2.1
  have HDI := Lib.hid (redist_any HM4.out (k := k) HOK4.out HLD.out.1 HLD.out.2.1 HLD.out.2.2.1 HLD.out.2.2.2 HN.out.1 HN.out.2 HZ.out)
  go_wp2_with fail
  refine HDI.out.mono ?_
  rintro e w5 ⟨⟨rfl, hw5⟩, ok5⟩
  obtain ⟨Y5, hM5, hon5, hY5⟩ := WentR.trans HON4.out HYY4.out hw5
  obtain ⟨q0, q1, q2, q3, q4⟩ := HSY.out
  have z0 := cell_only hon5 hny q0
  have z1 := cell_only hon5 hny q1
  have z2 := cell_only hon5 hny q2
  have z3 := cell_only hon5 hny q3
  have z4 := cell_only hon5 hny q4
  obtain ⟨Pl, vR, vP, hC3, hfin⟩ := hM5.bec
  have HBE := Lib.hid (becomes_match2 C base (lc : Nat) (lp : Nat) (pb : Nat) (st : Nat) r Pl vR vP b (l : Nat) (d : Nat) q w5 hC3 (Nat.le_trans HBA.out (Nat.le_trans HBB.out.size hon5.size)))
  have HFIN := Lib.hid hfin
  have HOK5 := Lib.hid ok5
  have HWT := Lib.hid (And.intro hon5 hY5)
  clear hM5 hon5 hY5 ok5 hw5 hC3 hfin q0 q1 q2 q3 q4 g4 g5
  go_wp2_with fail
  refine HBE.out.mono ?_
  intro e w6 h6
  obtain ⟨rfl, Y6, hM6, hon6, hY6⟩ := HFIN.out _ _ _ _ h6
  go_wp2_with fail
  refine bodyPost_ret_by (results_none rfl _ _ _) rfl ?_
  exact ⟨⟨rfl, wentR_below HBB.out (WentR.trans HWT.out.1 HWT.out.2 ⟨Y6, hM6, hon6, hY6⟩)⟩, by rw [← HQ.out]; exact HOK5.out⟩
end Go.Proofs.Ytiodlhieaajcgaa
