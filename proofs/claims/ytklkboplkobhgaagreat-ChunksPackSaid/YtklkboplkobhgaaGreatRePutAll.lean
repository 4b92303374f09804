/- Several texts in one: RePut, RePutM, RePutR. -/
import Derived.Test.YtklkboplkobhgaaGreatReHigh
import Derived.Deep.RegionHeld3
/- The reference's Put: a literal. -/
namespace Go.Proofs.YtklkboplkobhgaaGreat
set_option maxRecDepth 100000
open Go.RowKit

theorem RE.lt {C base h N : Nat} {lc lp pb st : Int} {r : R4} {x : (Nat → Nat) × Rc.St} {Y : List Nat} {w : World} (hM : RE w C base h N lc lp pb st r x Y) : ∀ i ∈ Y, i < w.heap.size := by
  obtain ⟨Pl, vR, gR, gP, capP, o, cap, hC, hgR, hE, hPl, hP, rfl⟩ := hM.ex
  intro i hi
  simp only [List.mem_cons, List.not_mem_nil, or_false] at hi
  rcases hi with rfl | rfl | rfl | rfl | rfl
  · exact hC.lt
  · exact (hC.reps.lt _ hgR).2
  · exact (hC.ps.lt _ rfl).2
  · exact (Array.getElem?_eq_some_iff.1 hE.blk).1
  · obtain ⟨cs, hcs⟩ := hE.row
    exact (Array.getElem?_eq_some_iff.1 hcs).1
theorem RE.below {C base h N : Nat} {lc lp pb st : Int} {r : R4} {x : (Nat → Nat) × Rc.St} {Y : List Nat} {w w1 : World} (hM : RE w C base h N lc lp pb st r x Y) (hb : Below w.heap.size w w1) : RE w1 C base h N lc lp pb st r x Y := by
  obtain ⟨Pl, vR, gR, gP, capP, o, cap, hC, hgR, hE, hPl, hP, hY⟩ := hM.ex
  obtain ⟨cs, hcs⟩ := hE.row
  exact ⟨⟨Pl, vR, gR, gP, capP, o, cap, hC.below hb, hgR, hE.keep2 (hb.block _ (Array.getElem?_eq_some_iff.1 hE.blk).1) (hb.block _ (Array.getElem?_eq_some_iff.1 hcs).1), hPl, hP, hY⟩, hM.fair⟩
theorem wentR_below {C base h N : Nat} {lc lp pb st' : Int} {r' : R4} {x' : (Nat → Nat) × Rc.St} {Y : List Nat} {w w1 w2 : World} (hb : Below w.heap.size w w1) (hh : WentR C base h N lc lp pb st' r' x' Y w1 w2) : WentR C base h N lc lp pb st' r' x' Y w w2 :=
  WentR.trans (Only.of_below hb) (fun _ h => .inl h) hh
set_option maxRecDepth 100000 in
set_option maxHeartbeats 2000000 in
theorem reput_lit {g C base h N lc lp pb st : Nat} {r : R4} {x : (encIo g).S} {Y : List Nat} {w : World} (hM : RE w C base h N (lc : Nat) (lp : Nat) (pb : Nat) (st : Nat) r x Y) (hlc : lc ≤ 4) (hlp : lp ≤ 4) (hpb : pb ≤ 4) (hst : st < 12) (hr1 : 1 ≤ r.1) (hr2 : r.1 ≤ 4294967296) {k : Nat} (hok : (encIo g).ok x.2 (k + 21)) (A : Option Addr) (H : List UInt8) (c : Nat) (hB : Bytes w A H) (hHY : ∀ a, A = some a → a.block ∉ Y) (hc : H.length ≤ c) (hH : H.length ≤ 1000000000)
    (hN : N = 2180 + 768 * 2 ^ (lc + lp)) (hN2 : N ≤ 1000000) (b : UInt8) (l d q : Int) {z : (encIo g).S} (hz : (Md.lit (encIo g) lc lp st r.1 H (b.toNat : Nat) ((encIo g).bitAt (16 * st + H.length % 2 ^ pb) false x).2).2 = z) :
    Calls Tryz.prog 32 #[PF C, PF h, .slice A H.length c, SyV 0 b l d q] w (MAnd ((encIo g).ok z.2 k) (RDone (.tuple #[]) C base h N (lc : Nat) (lp : Nat) (pb : Nat) (stateAfter (st : Nat) 0 l) r z Y w)) := by
  obtain ⟨Q, hQ⟩ : ∃ Q, ((encIo g).ok z.2 k) = Q := ⟨_, rfl⟩
  rw [hQ]
  have HQ := Lib.hid hQ
  have hT1 : 1 ≤ 2 ^ pb := Nat.one_le_two_pow
  have hT2 : 2 ^ pb ≤ 2 ^ 4 := Nat.pow_le_pow_right (by omega) hpb
  have HTW := Lib.hid (fun W => two_any pb (by omega) W)
  obtain ⟨T, hT⟩ : ∃ T, 2 ^ pb = T := ⟨_, rfl⟩
  simp only [hT] at hT1 hT2 hz HTW
  have hp16 : H.length % T < 16 := by have := Nat.mod_lt H.length hT1; omega
  have hmod : (H.length : Int) % ((T : Nat) : Int) = ((H.length % T : Nat) : Int) := by omega
  obtain ⟨p, hp⟩ : ∃ p, H.length % T = p := ⟨_, rfl⟩
  rw [hp] at hz hp16 hmod
  obtain ⟨y, hy⟩ : ∃ y, ((encIo g).bitAt (16 * st + p) false x).2 = y := ⟨_, rfl⟩
  rw [hy] at hz
  have HY1 := Lib.hid hy
  have HZ := Lib.hid hz
  have HN := Lib.hid hN
  have HM := Lib.hid hM
  have HOK := Lib.hid hok
  have HB := Lib.hid hB
  have HHY := Lib.hid hHY
  have HLT := Lib.hid hM.lt
  have HST := Lib.hid hst
  have HP16 := Lib.hid hp16
  have HS01 : Hid ((0 : Int) ≤ (st : Nat) ∧ ((st : Nat) : Int) ≤ 11) := Lib.hid (by omega)
  have HL := Lib.hid (And.intro hlc hlp)
  have HR1 := Lib.hid (And.intro hr1 hr2)
  have hTi : (T : Int) ≤ 16 := by omega
  have hTi1 : (1 : Int) ≤ (T : Int) := by omega
  have hTne : ((T : Int) == 0) = false := beq_eq_false_iff_ne.2 (by omega)
  have hci : (H.length : Int) ≤ (c : Int) := by omega
  have hHi : (H.length : Int) ≤ 1000000000 := by omega
  have hpi : (p : Int) < 16 := by omega
  have HMOD := Lib.hid hmod
  have hbv : ((b.toNat : Nat) : Int) < 256 := by have := b.toNat_lt; omega
  clear hQ hT hp hz hy hN hM hok hB hHY hr1 hr2 hT2 hp16 hst hmod
  go_enter Tryz.func32, Tryz.ntmps32
  go_upto_region 1 with fail
  obtain ⟨W1, hW1⟩ : ∃ W1, w.alloc (.cells #[.int .i64 0, .int .u8 (b.toNat : Nat), .int .i64 l, .int .i64 d, .int .i64 q] 96) = W1 := ⟨_, rfl⟩
  rw [hW1]
  obtain ⟨y0, y1, y2, y3, y4, hbb⟩ := sy_box hW1
  have hM1 := HM.out.below hbb
  obtain ⟨_, _, c2, _⟩ := hM1.heads
  have HM1 := Lib.hid hM1
  have HBB := Lib.hid hbb
  have HSY := Lib.hid (And.intro y0 (And.intro y1 (And.intro y2 (And.intro y3 y4))))
  clear hW1 hbb hM1 y0 y1 y2 y3 y4
  have HTW1 := Lib.hid (HTW.out W1)
  go_wp2_with fail
  refine HTW1.out.mono ?_
  rintro e w1 ⟨rfl, rfl⟩
  go_upto_region 2 with fail
  rw [HMOD.out]
  have y0 := HSY.out.1
  have HMA := Lib.hid (rmatch_any HM1.out HST.out p HP16.out)
  obtain ⟨hb, okb⟩ := rebit_is HM1.out (k := k + 18) HOK.out (i := 16 * st + p) (by have := HN.out; have := HST.out; have := HP16.out; omega) false HY1.out
  have HBI := Lib.hid hb
  have HOK2 := Lib.hid okb
  clear hb okb
  go_wp2_with fail
  refine HMA.out.mono ?_
  rintro e w1 ⟨rfl, rfl⟩
  go_wp2_with fail
  refine HBI.out.mono ?_
  rintro e w2 ⟨rfl, Y2, hM2, hon2, hY2⟩
  obtain ⟨q0, q1, q2, q3, q4⟩ := HSY.out
  have hny : w.heap.size ∉ Y := fun h => Nat.lt_irrefl _ (HLT.out _ h)
  have y1 := cell_only hon2 hny q1
  have hB2 : Bytes w2 A H := (HB.out.below HBB.out).keep hon2.size (fun a ha hal => by
    cases A with
    | none => cases ha
    | some A0 =>
      injection ha with ha
      have eb := hon2.block _ hal (by rw [← ha]; exact HHY.out _ rfl)
      unfold World.cell?
      rw [eb])
  have HLI := Lib.hid (relit_any hM2 HL.out.1 HL.out.2 HST.out HR1.out.1 HR1.out.2 (k := k) HOK2.out A H c hB2 (by omega) (by omega) HN.out hN2 b HZ.out)
  have HON2 := Lib.hid hon2
  have HY2 := Lib.hid hY2
  clear hM2 hon2 hY2 hB2 q0 q1 q2 q3 q4
  go_wp2_with fail
  refine HLI.out.mono ?_
  rintro e w3 ⟨⟨rfl, Y3, hM3, hon3, hY3⟩, ok3⟩
  have HWT : Hid (Only Y W1 w3 ∧ ∀ i ∈ Y3, i ∈ Y ∨ W1.heap.size ≤ i) := Lib.hid ⟨HON2.out.trans hon3 HY2.out, fun i hi => by
    rcases hY3 i hi with h | h
    · exact HY2.out i h
    · exact .inr (Nat.le_trans HON2.out.size h)⟩
  obtain ⟨q0, q1, q2, q3, q4⟩ := HSY.out
  have z0 := cell_only HWT.out.1 hny q0
  have z1 := cell_only HWT.out.1 hny q1
  have z2 := cell_only HWT.out.1 hny q2
  have z3 := cell_only HWT.out.1 hny q3
  have z4 := cell_only HWT.out.1 hny q4
  obtain ⟨Pl, vR, vP, hC3, hfin⟩ := hM3.bec
  have HBE := Lib.hid (becomes_lit2 C base (lc : Nat) (lp : Nat) (pb : Nat) (st : Nat) r Pl vR vP b l d q w3 hC3 HS01.out.1 HS01.out.2)
  have HFIN := Lib.hid hfin
  have HOK3 := Lib.hid ok3
  clear hM3 hon3 hY3 ok3 hC3 hfin q0 q1 q2 q3 q4
  go_wp2_with fail
  refine HBE.out.mono ?_
  intro e w4 h4
  obtain ⟨rfl, Y4, hM4, hon4, hY4⟩ := HFIN.out _ _ _ _ h4
  go_wp2_with fail
  refine bodyPost_ret_by (results_none rfl _ _ _) rfl ?_
  exact ⟨⟨rfl, wentR_below HBB.out (WentR.trans HWT.out.1 HWT.out.2 ⟨Y4, hM4, hon4, hY4⟩)⟩, by rw [← HQ.out]; exact HOK3.out⟩
end Go.Proofs.YtklkboplkobhgaaGreat

/- The reference's Put: a match. -/
namespace Go.Proofs.YtklkboplkobhgaaGreat
set_option maxRecDepth 100000
open Go.RowKit

set_option maxRecDepth 100000 in
set_option maxHeartbeats 2000000 in
theorem reput_match {g C base h N lc lp pb st : Nat} {r : R4} {x : (encIo g).S} {Y : List Nat} {w : World} (hM : RE w C base h N (lc : Nat) (lp : Nat) (pb : Nat) (st : Nat) r x Y) (hpb : pb ≤ 4) (hst : st < 12) (hbase : base ≤ w.heap.size) {k : Nat} (hok : (encIo g).ok x.2 (k + 82)) (A : Option Addr) (H : List UInt8) (c : Nat) (hc : H.length ≤ c) (hH : H.length ≤ 1000000000)
    (hN1 : 2180 ≤ N) (hN2 : N ≤ 1000000) (b : UInt8) (l d : Nat) (q : Int) (h2 : 2 ≤ l) (h3 : l ≤ 273) (h4 : 1 ≤ d) (h5 : d ≤ 4294967295) {z : (encIo g).S} (hz : (Md.dist (encIo g) l (d : Nat) (Md.len (encIo g) 432 (H.length % 2 ^ pb) (l : Nat) ((encIo g).bitAt (192 + st) false ((encIo g).bitAt (16 * st + H.length % 2 ^ pb) true x).2).2).2).2 = z) :
    Calls Tryz.prog 32 #[PF C, PF h, .slice A H.length c, SyV 1 b (l : Nat) (d : Nat) q] w (MAnd ((encIo g).ok z.2 k) (RDone (.tuple #[]) C base h N (lc : Nat) (lp : Nat) (pb : Nat) (stateAfter (st : Nat) 1 (l : Nat)) ((d : Nat), r.1, r.2.1, r.2.2.1) z Y w)) := by
  obtain ⟨Q, hQ⟩ : ∃ Q, ((encIo g).ok z.2 k) = Q := ⟨_, rfl⟩
  rw [hQ]
  have HQ := Lib.hid hQ
  have hT1 : 1 ≤ 2 ^ pb := Nat.one_le_two_pow
  have hT2 : 2 ^ pb ≤ 2 ^ 4 := Nat.pow_le_pow_right (by omega) hpb
  have HTW := Lib.hid (fun W => two_any pb (by omega) W)
  obtain ⟨T, hT⟩ : ∃ T, 2 ^ pb = T := ⟨_, rfl⟩
  simp only [hT] at hT1 hT2 hz HTW
  have hp16 : H.length % T < 16 := by have := Nat.mod_lt H.length hT1; omega
  have hmod : (H.length : Int) % ((T : Nat) : Int) = ((H.length % T : Nat) : Int) := by omega
  obtain ⟨p, hp⟩ : ∃ p, H.length % T = p := ⟨_, rfl⟩
  rw [hp] at hz hp16 hmod
  obtain ⟨y, hy⟩ : ∃ y, ((encIo g).bitAt (16 * st + p) true x).2 = y := ⟨_, rfl⟩
  rw [hy] at hz
  have HY1 := Lib.hid hy
  obtain ⟨y2, hy2⟩ : ∃ y2, ((encIo g).bitAt (192 + st) false y).2 = y2 := ⟨_, rfl⟩
  rw [hy2] at hz
  have HY2 := Lib.hid hy2
  obtain ⟨y3, hy3⟩ : ∃ y3, (Md.len (encIo g) 432 p (l : Nat) y2).2 = y3 := ⟨_, rfl⟩
  rw [hy3] at hz
  have HY3 := Lib.hid hy3
  have HZ := Lib.hid hz
  have HN := Lib.hid (And.intro hN1 hN2)
  have HM := Lib.hid hM
  have HOK := Lib.hid hok
  have HLT := Lib.hid hM.lt
  have HST := Lib.hid hst
  have HP16 := Lib.hid hp16
  have HBA := Lib.hid hbase
  have hTi : (T : Int) ≤ 16 := by omega
  have hTi1 : (1 : Int) ≤ (T : Int) := by omega
  have hTne : ((T : Int) == 0) = false := beq_eq_false_iff_ne.2 (by omega)
  have hci : (H.length : Int) ≤ (c : Int) := by omega
  have hHi : (H.length : Int) ≤ 1000000000 := by omega
  have hpi : (p : Int) < 16 := by omega
  have HMOD := Lib.hid hmod
  have hbv : ((b.toNat : Nat) : Int) < 256 := by have := b.toNat_lt; omega
  have hli : (l : Int) ≤ 273 := by omega
  have hdi : (d : Int) ≤ 4294967295 := by omega
  have HLD := Lib.hid (And.intro h2 (And.intro h3 (And.intro h4 h5)))
  clear hQ hT hp hz hy hy2 hy3 hN1 hN2 hM hok hT2 hp16 hst hmod hbase h2 h3 h4 h5
  go_enter Tryz.func32, Tryz.ntmps32
  go_upto_region 1 with fail
  obtain ⟨W1, hW1⟩ : ∃ W1, w.alloc (.cells #[.int .i64 1, .int .u8 (b.toNat : Nat), .int .i64 l, .int .i64 d, .int .i64 q] 96) = W1 := ⟨_, rfl⟩
  rw [hW1]
  obtain ⟨y0, y1, y2', y3, y4, hbb⟩ := sy_box hW1
  have hM1 := HM.out.below hbb
  obtain ⟨_, _, c2, _⟩ := hM1.heads
  have HM1 := Lib.hid hM1
  have HBB := Lib.hid hbb
  have HSY := Lib.hid (And.intro y0 (And.intro y1 (And.intro y2' (And.intro y3 y4))))
  have hny : w.heap.size ∉ Y := fun h => Nat.lt_irrefl _ (HLT.out _ h)
  clear hW1 hbb hM1 y0 y1 y2' y3 y4
  have HTW1 := Lib.hid (HTW.out W1)
  go_wp2_with fail
  refine HTW1.out.mono ?_
  rintro e w1 ⟨rfl, rfl⟩
  go_upto_region 2 with fail
  rw [HMOD.out]
  have y0 := HSY.out.1
  have HMA := Lib.hid (rmatch_any HM1.out HST.out p HP16.out)
  obtain ⟨hb, okb⟩ := rebit_is HM1.out (k := k + 79) HOK.out (i := 16 * st + p) (by have := HN.out; have := HST.out; have := HP16.out; omega) true HY1.out
  have HBI := Lib.hid hb
  have HOK2 := Lib.hid okb
  clear hb okb
  go_wp2_with fail
  refine HMA.out.mono ?_
  rintro e w1 ⟨rfl, rfl⟩
  go_wp2_with fail
  refine HBI.out.mono ?_
  rintro e w2 ⟨rfl, Y2, hM2, hon2, hY2⟩
  have HRE := Lib.hid (rrep_any hM2 HST.out)
  obtain ⟨hb, okb⟩ := rebit_is hM2 (k := k + 78) HOK2.out (i := 192 + st) (by have := HN.out; have := HST.out; omega) false HY2.out
  have HBI2 := Lib.hid hb
  have HOK3 := Lib.hid okb
  have HON2 := Lib.hid hon2
  have HYY2 := Lib.hid hY2
  clear hb okb hM2 hon2 hY2
  go_wp2_with fail
  refine HRE.out.mono ?_
  rintro e w3 ⟨rfl, rfl⟩
  go_wp2_with fail
  refine HBI2.out.mono ?_
  rintro e w3 ⟨rfl, hw3⟩
  obtain ⟨Y3, hM3, hon3, hY3⟩ := WentR.trans HON2.out HYY2.out hw3
  clear hw3
  have HLEN := Lib.hid (relen_any (hM3.drewN 1) (k := k + 60) HOK3.out (.inl rfl) HP16.out HLD.out.1 HLD.out.2.1 HN.out.1 HN.out.2 HY3.out)
  have g3 := cell_only hon3 hny HSY.out.2.2.1
  have HON3 := Lib.hid hon3
  have HYY3 := Lib.hid hY3
  have HM3 := Lib.hid hM3
  clear hM3 hon3 hY3
  go_upto_region 24 with fail
  refine wp_region_held_drew (S := fun w2 => w2.cell? ⟨w.heap.size, 2, none⟩ = some (.int .i64 (l : Nat))) (by kernel_rfl) g3 (fun hS => ?_)
  refine wpAnyH_take (i := 0) (oi := { dst := some 109, op := Op.move (Operand.tmp 0), type := 49, pos := "ref.go:230", after := #[], guard := none }) (v := ?vrp1) rfl (by kernel_rfl) (by kernel_rfl) (by kernel_rfl) (fun _ _ _ h => h) (Or.inl ⟨by rfl, ?yrp1⟩) hS ?_
  case yrp1 =>
    intro w hSw
    go_simp; all_goals (with_reducible rfl)
  simp only [Act.put, List.setIfInBounds_toArray, List.set_cons_zero, List.set_cons_succ]
  refine wpAnyH_take (i := 1) (oi := { dst := some 110, op := Op.move (Operand.tmp 1), type := 92, pos := "ref.go:230", after := #[], guard := none }) (v := ?vrp2) rfl (by kernel_rfl) (by kernel_rfl) (by kernel_rfl) (fun _ _ _ h => h) (Or.inl ⟨by rfl, ?yrp2⟩) hS ?_
  case yrp2 =>
    intro w hSw
    go_simp; all_goals (with_reducible rfl)
  simp only [Act.put, List.setIfInBounds_toArray, List.set_cons_zero, List.set_cons_succ]
  refine wpAnyH_take (i := 3) (oi := { dst := some 112, op := Op.move (Operand.tmp 8), type := 3, pos := "ref.go:230", after := #[], guard := none }) (v := ?vrp3) rfl (by kernel_rfl) (by kernel_rfl) (by kernel_rfl) (fun _ _ _ h => h) (Or.inl ⟨by rfl, ?yrp3⟩) hS ?_
  case yrp3 =>
    intro w hSw
    go_simp; all_goals (with_reducible rfl)
  simp only [Act.put, List.setIfInBounds_toArray, List.set_cons_zero, List.set_cons_succ]
  refine wpAnyH_take (i := 4) (oi := { dst := some 113, op := Op.fieldAddr 96 (Operand.tmp 7) 2, type := 0, pos := "ref.go:230", after := #[], guard := none }) (v := ?vrp4) rfl (by kernel_rfl) (by kernel_rfl) (by kernel_rfl) (fun _ _ _ h => h) (Or.inl ⟨by rfl, ?yrp4⟩) hS ?_
  case yrp4 =>
    intro w hSw
    go_simp; all_goals (with_reducible rfl)
  simp only [Act.put, List.setIfInBounds_toArray, List.set_cons_zero, List.set_cons_succ]
  refine wpAnyH_take (i := 5) (oi := { dst := some 114, op := Op.load 3 (Operand.tmp 113), type := 3, pos := "ref.go:230", after := #[{ on := 4, ground := Ground.data }], guard := none }) (v := ?vrp5) rfl (by kernel_rfl) (by kernel_rfl) (by kernel_rfl) (fun _ _ _ h => h) (Or.inl ⟨by rfl, ?yrp5⟩) hS ?_
  case yrp5 =>
    intro w hSw
    have q1 := hSw
    go_simp; all_goals (with_reducible rfl)
  simp only [Act.put, List.setIfInBounds_toArray, List.set_cons_zero, List.set_cons_succ]
  refine wpAnyH_ready (rs := [2]) (by kernel_rfl) (by simp) ?_
  refine (AllReadyH.cons (o := { dst := some 111, op := Op.call { callee := Callee.value (Operand.func 47), args := #[Operand.const (Value.bool false)], argTypes := #[4] }, type := 3, pos := "ref.go:230", after := #[], guard := none }) rfl (fun K hK => ?_) AllReadyH.nil)
  go_simp
  refine (rlengths_no _).mono ?_
  rintro e x3 ⟨rfl, rfl⟩
  go_wp2_with fail
  refine hK.out _ _ hS (fun _ => ?_)
  clear hK K
  refine wpAnyH_ready (rs := [6]) (by kernel_rfl) (by simp) ?_
  refine (AllReadyH.cons (o := { dst := some 115, op := Op.call { callee := Callee.value (Operand.func 46), args := #[Operand.tmp 109, Operand.tmp 110, Operand.tmp 111, Operand.tmp 112, Operand.tmp 114], argTypes := #[49, 92, 3, 3, 3] }, type := 0, pos := "ref.go:230", after := #[{ on := 0, ground := Ground.data }, { on := 1, ground := Ground.data }, { on := 2, ground := Ground.data }, { on := 3, ground := Ground.data }, { on := 5, ground := Ground.data }, { on := 2, ground := Ground.chain }], guard := none }) rfl (fun K hK => ?_) AllReadyH.nil)
  go_simp
  refine HLEN.out.mono ?_
  rintro e x4 ⟨⟨rfl, hw4⟩, ok4⟩
  obtain ⟨Y4, hM4, hon4, hY4⟩ := WentR.trans HON3.out HYY3.out (wentR_undrew hw4)
  have HON4 := Lib.hid hon4
  have HYY4 := Lib.hid hY4
  have HM4 := Lib.hid hM4
  have HOK4 := Lib.hid ok4
  have g4 := cell_only HON4.out hny HSY.out.2.2.1
  clear hw4 ok4 hM4 hon4 hY4
  go_wp2_with fail
  refine hK.out _ _ g4 (fun _ => ?_)
  clear hK K
  refine wpAnyH_done (by kernel_rfl) ?_ _

  clear hS g3 HLEN
  have g5 := cell_only HON4.out hny HSY.out.2.2.2.1
  have HDI := Lib.hid (redist_any HM4.out (k := k) HOK4.out HLD.out.1 HLD.out.2.1 HLD.out.2.2.1 HLD.out.2.2.2 HN.out.1 HN.out.2 HZ.out)
  go_wp2_with fail
  refine HDI.out.mono ?_
  rintro e w5 ⟨⟨rfl, hw5⟩, ok5⟩
  obtain ⟨Y5, hM5, hon5, hY5⟩ := WentR.trans HON4.out HYY4.out hw5
  obtain ⟨q0, q1, q2, q3, q4⟩ := HSY.out
  have z0 := cell_only hon5 hny q0
  have z1 := cell_only hon5 hny q1
  have z2 := cell_only hon5 hny q2
  have z3 := cell_only hon5 hny q3
  have z4 := cell_only hon5 hny q4
  obtain ⟨Pl, vR, vP, hC3, hfin⟩ := hM5.bec
  have HBE := Lib.hid (becomes_match2 C base (lc : Nat) (lp : Nat) (pb : Nat) (st : Nat) r Pl vR vP b (l : Nat) (d : Nat) q w5 hC3 (Nat.le_trans HBA.out (Nat.le_trans HBB.out.size hon5.size)))
  have HFIN := Lib.hid hfin
  have HOK5 := Lib.hid ok5
  have HWT := Lib.hid (And.intro hon5 hY5)
  clear hM5 hon5 hY5 ok5 hw5 hC3 hfin q0 q1 q2 q3 q4 g4 g5
  go_wp2_with fail
  refine HBE.out.mono ?_
  intro e w6 h6
  obtain ⟨rfl, Y6, hM6, hon6, hY6⟩ := HFIN.out _ _ _ _ h6
  go_wp2_with fail
  refine bodyPost_ret_by (results_none rfl _ _ _) rfl ?_
  exact ⟨⟨rfl, wentR_below HBB.out (WentR.trans HWT.out.1 HWT.out.2 ⟨Y6, hM6, hon6, hY6⟩)⟩, by rw [← HQ.out]; exact HOK5.out⟩
end Go.Proofs.YtklkboplkobhgaaGreat

/- The reference's Put: a repeat. -/
namespace Go.Proofs.YtklkboplkobhgaaGreat
set_option maxRecDepth 100000
open Go.RowKit

def repOnes (g st : Nat) : Nat → Nat → (encIo g).S → (encIo g).S
  | 0, _, x => x
  | m + 1, n, x => repOnes g st m (n + 1) ((encIo g).bitAt (204 + 12 * n + st) true x).2
theorem which_ones (g st q : Nat) (hq : q ≤ 3) (x : (encIo g).S) : (Md.which (encIo g) st (q : Nat) x).2 = if q < 3 then ((encIo g).bitAt (204 + 12 * q + st) false (repOnes g st (min 3 q) 0 x)).2 else repOnes g st (min 3 q) 0 x := by
  have b0 : ∀ i b y, ((encIo g).bitAt i b y).1 = b := fun _ _ _ => rfl
  unfold Md.which
  simp only [b0]
  have h : q = 0 ∨ q = 1 ∨ q = 2 ∨ q = 3 := by omega
  rcases h with rfl | rfl | rfl | rfl <;> rfl
theorem rept_snd (g st p q l : Nat) (hq : q ≤ 3) (x : (encIo g).S) : (Md.rept (encIo g) st p (l : Nat) (q : Nat) x).2 = if q = 0 then (if l = 1 then ((encIo g).bitAt (240 + 16 * st + p) false (Md.which (encIo g) st (q : Nat) x).2).2 else (Md.len (encIo g) 946 p (l : Nat) ((encIo g).bitAt (240 + 16 * st + p) true (Md.which (encIo g) st (q : Nat) x).2).2).2) else (Md.len (encIo g) 946 p (l : Nat) (Md.which (encIo g) st (q : Nat) x).2).2 := by
  have b0 : ∀ i b y, ((encIo g).bitAt i b y).1 = b := fun _ _ _ => rfl
  unfold Md.rept
  simp only [which_enc g st q hq, b0]
  by_cases h0 : q = 0
  · rw [if_pos h0, if_pos h0]
    by_cases hl : l = 1
    · subst hl
      simp
    · have hb : ((l : Int) != 1) = true := by
        simp only [bne_iff_ne, ne_eq]
        omega
      rw [if_neg (by rw [hb]; decide), if_neg hl, hb]
  · rw [if_neg h0, if_neg h0]
set_option maxRecDepth 100000 in
set_option maxHeartbeats 4000000 in
theorem reput_rept {g C base h N lc lp pb st : Nat} {r : R4} {x : (encIo g).S} {Y : List Nat} {w : World} (hM : RE w C base h N (lc : Nat) (lp : Nat) (pb : Nat) (st : Nat) r x Y) (hpb : pb ≤ 4) (hst : st < 12) (hbase : base ≤ w.heap.size) {k : Nat} (hok : (encIo g).ok x.2 (k + 27)) (A : Option Addr) (H : List UInt8) (c : Nat) (hc : H.length ≤ c) (hH : H.length ≤ 1000000000)
    (hN1 : 2180 ≤ N) (hN2 : N ≤ 1000000) (b : UInt8) (l q : Nat) (d : Int) (hq : q ≤ 3) (h1 : 1 ≤ l) (h2 : q ≠ 0 → 2 ≤ l) (h3 : l ≤ 273) {z : (encIo g).S} (hz : (Md.rept (encIo g) st (H.length % 2 ^ pb) (l : Nat) (q : Nat) ((encIo g).bitAt (192 + st) true ((encIo g).bitAt (16 * st + H.length % 2 ^ pb) true x).2).2).2 = z) :
    Calls Tryz.prog 32 #[PF C, PF h, .slice A H.length c, SyV 2 b (l : Nat) d (q : Nat)] w (MAnd ((encIo g).ok z.2 k) (RDone (.tuple #[]) C base h N (lc : Nat) (lp : Nat) (pb : Nat) (stateAfter (st : Nat) 2 (l : Nat)) (repsAfter r 2 d (q : Nat)) z Y w)) := by
  obtain ⟨Q, hQ⟩ : ∃ Q, ((encIo g).ok z.2 k) = Q := ⟨_, rfl⟩
  rw [hQ]
  have HQ := Lib.hid hQ
  have hT1 : 1 ≤ 2 ^ pb := Nat.one_le_two_pow
  have hT2 : 2 ^ pb ≤ 2 ^ 4 := Nat.pow_le_pow_right (by omega) hpb
  have HTW := Lib.hid (fun W => two_any pb (by omega) W)
  obtain ⟨T, hT⟩ : ∃ T, 2 ^ pb = T := ⟨_, rfl⟩
  simp only [hT] at hT1 hT2 hz HTW
  have hp16 : H.length % T < 16 := by have := Nat.mod_lt H.length hT1; omega
  have hmod : (H.length : Int) % ((T : Nat) : Int) = ((H.length % T : Nat) : Int) := by omega
  obtain ⟨p, hp⟩ : ∃ p, H.length % T = p := ⟨_, rfl⟩
  rw [hp] at hz hp16 hmod
  obtain ⟨y, hy⟩ : ∃ y, ((encIo g).bitAt (16 * st + p) true x).2 = y := ⟨_, rfl⟩
  rw [hy] at hz
  have HY1 := Lib.hid hy
  obtain ⟨y2, hy2⟩ : ∃ y2, ((encIo g).bitAt (192 + st) true y).2 = y2 := ⟨_, rfl⟩
  rw [hy2] at hz
  have HY2 := Lib.hid hy2
  have HN := Lib.hid (And.intro hN1 hN2)
  have HM := Lib.hid hM
  have HOK := Lib.hid hok
  have HLT := Lib.hid hM.lt
  have HST := Lib.hid hst
  have HP16 := Lib.hid hp16
  have HBA := Lib.hid hbase
  have hTi : (T : Int) ≤ 16 := by omega
  have hTi1 : (1 : Int) ≤ (T : Int) := by omega
  have hTne : ((T : Int) == 0) = false := beq_eq_false_iff_ne.2 (by omega)
  have hci : (H.length : Int) ≤ (c : Int) := by omega
  have hHi : (H.length : Int) ≤ 1000000000 := by omega
  have hpi : (p : Int) < 16 := by omega
  have HMOD := Lib.hid hmod
  have hbv : ((b.toNat : Nat) : Int) < 256 := by have := b.toNat_lt; omega
  have hli : (l : Int) ≤ 273 := by omega
  have hl1i : (1 : Int) ≤ (l : Int) := by omega
  have hqi : (q : Int) ≤ 3 := by omega
  have HLD := Lib.hid (And.intro hq (And.intro h2 h3))
  rw [rept_snd g st p q l hq] at hz
  have hwh := which_ones g st q hq y2
  obtain ⟨WH, hWH⟩ : ∃ WH, (Md.which (encIo g) st (q : Nat) y2).2 = WH := ⟨_, rfl⟩
  rw [hWH] at hz hwh
  obtain ⟨Z0, hZ0⟩ : ∃ Z0, repOnes g st (min 3 q) 0 y2 = Z0 := ⟨_, rfl⟩
  rw [hZ0] at hwh
  have HZ0 := Lib.hid hZ0
  have HZZ := Lib.hid hz
  have HWH := Lib.hid hwh
  clear hQ hT hp hz hy hy2 hN1 hN2 hM hok hT2 hp16 hst hmod hbase h2 h3 hwh hWH hZ0
  go_enter Tryz.func32, Tryz.ntmps32
  go_upto_region 1 with fail
  obtain ⟨W1, hW1⟩ : ∃ W1, w.alloc (.cells #[.int .i64 2, .int .u8 (b.toNat : Nat), .int .i64 l, .int .i64 d, .int .i64 q] 96) = W1 := ⟨_, rfl⟩
  rw [hW1]
  obtain ⟨y0, y1, y2', y3, y4, hbb⟩ := sy_box hW1
  have hM1 := HM.out.below hbb
  obtain ⟨_, _, c2, _⟩ := hM1.heads
  have HM1 := Lib.hid hM1
  have HBB := Lib.hid hbb
  have HSY := Lib.hid (And.intro y0 (And.intro y1 (And.intro y2' (And.intro y3 y4))))
  have hny : w.heap.size ∉ Y := fun h => Nat.lt_irrefl _ (HLT.out _ h)
  clear hW1 hbb hM1 y0 y1 y2' y3 y4
  have HTW1 := Lib.hid (HTW.out W1)
  go_wp2_with fail
  refine HTW1.out.mono ?_
  rintro e w1 ⟨rfl, rfl⟩
  go_upto_region 2 with fail
  rw [HMOD.out]
  have y0 := HSY.out.1
  have HMA := Lib.hid (rmatch_any HM1.out HST.out p HP16.out)
  obtain ⟨hb, okb⟩ := rebit_is HM1.out (k := k + 24) HOK.out (i := 16 * st + p) (by have := HN.out; have := HST.out; have := HP16.out; omega) true HY1.out
  have HBI := Lib.hid hb
  have HOK2 := Lib.hid okb
  clear hb okb
  go_wp2_with fail
  refine HMA.out.mono ?_
  rintro e w1 ⟨rfl, rfl⟩
  go_wp2_with fail
  refine HBI.out.mono ?_
  rintro e w2 ⟨rfl, Y2, hM2, hon2, hY2⟩
  have HRE := Lib.hid (rrep_any hM2 HST.out)
  obtain ⟨hb, okb⟩ := rebit_is hM2 (k := k + 23) HOK2.out (i := 192 + st) (by have := HN.out; have := HST.out; omega) true HY2.out
  have HBI2 := Lib.hid hb
  have HOK3 := Lib.hid okb
  have HON2 := Lib.hid hon2
  have HYY2 := Lib.hid hY2
  clear hb okb hM2 hon2 hY2
  go_wp2_with fail
  refine HRE.out.mono ?_
  rintro e w3 ⟨rfl, rfl⟩
  go_wp2_with fail
  refine HBI2.out.mono ?_
  rintro e w3 ⟨rfl, hw3⟩
  obtain ⟨Y3, hM3, hon3, hY3⟩ := WentR.trans HON2.out HYY2.out hw3
  clear hw3
  have HW3 := Lib.hid (And.intro hM3 (And.intro hon3 hY3))
  clear hM3 hon3 hY3
  go_wp2_with fail
  go_loopw [9] (fun i wr => ∃ (n : Nat) (x' : (encIo g).S) (Y' : List Nat), n ≤ 3 ∧ n ≤ q ∧ i = .int .i64 (n : Nat) ∧ Hid ((encIo g).ok x'.2 (k + 22 + (3 - n))) ∧ Hid (repOnes g st (min 3 q - n) n x' = Z0) ∧ Hid (RE wr C base h N (lc : Nat) (lp : Nat) (pb : Nat) (st : Nat) r x' Y' ∧ Only Y W1 wr ∧ ∀ i ∈ Y', i ∈ Y ∨ W1.heap.size ≤ i)) (fun i _ => 3 - (intOf i).toNat)
  case atStart => exact ⟨0, y2, Y3, by omega, by omega, rfl, HOK3, HZ0, HW3⟩
  case round =>
    obtain ⟨n, x', Y', hn, hnq, rfl, HOKr, HZr, HMr⟩ := hrel
    have HMc := Lib.hid HMr.out.1
    have HONc := Lib.hid HMr.out.2.1
    have HYc := Lib.hid HMr.out.2.2
    have HNN := Lib.hid (And.intro hn hnq)
    have q40 := cell_only HONc.out hny HSY.out.2.2.2.2
    have q20 := cell_only HONc.out hny HSY.out.2.2.1
    by_cases hgo : n < 3 ∧ n < q
    · have hn3i : (n : Int) < 3 := by omega
      have hnqi : (n : Int) < (q : Int) := by omega
      obtain ⟨y5, hy5⟩ : ∃ y5, ((encIo g).bitAt (204 + 12 * n + st) true x').2 = y5 := ⟨_, rfl⟩
      have HNU := Lib.hid (rwhich_any HMc.out HST.out n (by omega))
      obtain ⟨hb, ok5⟩ := rebit_is HMc.out (k := k + 19 + (3 - n)) (by rw [show k + 19 + (3 - n) + 3 = k + 22 + (3 - n) by omega]; exact HOKr.out) (i := 204 + 12 * n + st) (by have := HN.out; have := HST.out; omega) true hy5
      have HBI := Lib.hid hb
      have HOK5 : Hid ((encIo g).ok y5.2 (k + 22 + (3 - (n + 1)))) := Lib.hid (by rw [show k + 22 + (3 - (n + 1)) = k + 19 + (3 - n) + 2 by omega]; exact ok5)
      have HZ5 : Hid (repOnes g st (min 3 q - (n + 1)) (n + 1) y5 = Z0) := Lib.hid (by
        rw [← HZr.out, show min 3 q - n = (min 3 q - (n + 1)) + 1 by omega]
        conv => rhs; unfold repOnes
        rw [hy5])
      clear hb ok5 hy5
      go_wp2_with fail
      refine HNU.out.mono ?_
      rintro e w5 ⟨rfl, rfl⟩
      go_wp2_with fail
      refine HBI.out.mono ?_
      rintro e w6 ⟨rfl, hw6⟩
      have HW := Lib.hid (WentR.trans HONc.out HYc.out hw6)
      clear hw6
      go_wp2_with fail
      obtain ⟨Y6, hM6, hon6, hY6⟩ := HW.out
      exact ⟨⟨n + 1, y5, Y6, by have := HNN.out; omega, by have := HNN.out; omega, by go_num, HOK5, HZ5, Lib.hid ⟨hM6, hon6, hY6⟩⟩, by simp [intOf]; omega⟩
    · have hm0 : min 3 q - n = 0 := by omega
      have hxz : x' = Z0 := by have h := HZr.out; rw [hm0] at h; exact h
      subst hxz
      have HOKc : Hid ((encIo g).ok x'.2 (k + 22)) := Lib.hid ((encIo g).le HOKr.out (by omega))
      clear hm0 HOKr HZr HMr HW3
      by_cases hq3 : q = 3
      · have hn3 : n = 3 := by omega
        have HZ : Hid ((Md.len (encIo g) 946 p (l : Nat) x').2 = z) := Lib.hid (by
          have h := HZZ.out
          rw [if_neg (by omega)] at h
          have h2 := HWH.out
          rw [if_neg (by omega)] at h2
          rw [← h2]; exact h)
        have hl2 : 2 ≤ l := HLD.out.2.1 (by omega)
        have hl2i : (2 : Int) ≤ (l : Int) := by omega
        have hn3b : decide ((n : Int) < 3) = false := decide_eq_false (by omega)
        have hq0 : ((q : Int) == 0) = false := beq_eq_false_iff_ne.2 (by omega)
        have hq30 : decide ((q : Int) < 3) = false := decide_eq_false (by omega)
        have hl2b : decide ((l : Int) > 1) = true := decide_eq_true (by omega)
        clear hq3 hn3 hgo q20 q40
        have q22 := cell_only HONc.out hny HSY.out.2.2.1
        have q42 := cell_only HONc.out hny HSY.out.2.2.2.2
        have g3 := cell_only HONc.out hny HSY.out.2.2.1
        have HLEN := Lib.hid (relen_any (HMc.out.drewN 1) (k := k) ((encIo g).le HOKc.out (by omega)) (.inr rfl) HP16.out hl2 HLD.out.2.2 HN.out.1 HN.out.2 HZ.out)
        go_upto_region 17 with fail
        refine wp_region_held_drew (S := fun w2 => w2.cell? ⟨w.heap.size, 2, none⟩ = some (.int .i64 (l : Nat))) (by kernel_rfl) g3 (fun hS => ?_)
        refine wpAnyH_take (i := 0) (oi := { dst := some 74, op := Op.move (Operand.tmp 0), type := 49, pos := "ref.go:249", after := #[], guard := none }) (v := ?vrrA6) rfl (by kernel_rfl) (by kernel_rfl) (by kernel_rfl) (fun _ _ _ h => h) (Or.inl ⟨by rfl, ?yrrA6⟩) hS ?_
        case yrrA6 =>
          intro w hSw
          go_simp; all_goals (with_reducible rfl)
        simp only [Act.put, List.setIfInBounds_toArray, List.set_cons_zero, List.set_cons_succ]
        refine wpAnyH_take (i := 1) (oi := { dst := some 75, op := Op.move (Operand.tmp 1), type := 92, pos := "ref.go:249", after := #[], guard := none }) (v := ?vrrA7) rfl (by kernel_rfl) (by kernel_rfl) (by kernel_rfl) (fun _ _ _ h => h) (Or.inl ⟨by rfl, ?yrrA7⟩) hS ?_
        case yrrA7 =>
          intro w hSw
          go_simp; all_goals (with_reducible rfl)
        simp only [Act.put, List.setIfInBounds_toArray, List.set_cons_zero, List.set_cons_succ]
        refine wpAnyH_take (i := 3) (oi := { dst := some 77, op := Op.move (Operand.tmp 8), type := 3, pos := "ref.go:249", after := #[], guard := none }) (v := ?vrrA8) rfl (by kernel_rfl) (by kernel_rfl) (by kernel_rfl) (fun _ _ _ h => h) (Or.inl ⟨by rfl, ?yrrA8⟩) hS ?_
        case yrrA8 =>
          intro w hSw
          go_simp; all_goals (with_reducible rfl)
        simp only [Act.put, List.setIfInBounds_toArray, List.set_cons_zero, List.set_cons_succ]
        refine wpAnyH_take (i := 4) (oi := { dst := some 78, op := Op.fieldAddr 96 (Operand.tmp 7) 2, type := 0, pos := "ref.go:249", after := #[], guard := none }) (v := ?vrrA9) rfl (by kernel_rfl) (by kernel_rfl) (by kernel_rfl) (fun _ _ _ h => h) (Or.inl ⟨by rfl, ?yrrA9⟩) hS ?_
        case yrrA9 =>
          intro w hSw
          go_simp; all_goals (with_reducible rfl)
        simp only [Act.put, List.setIfInBounds_toArray, List.set_cons_zero, List.set_cons_succ]
        refine wpAnyH_take (i := 5) (oi := { dst := some 79, op := Op.load 3 (Operand.tmp 78), type := 3, pos := "ref.go:249", after := #[{ on := 4, ground := Ground.data }], guard := none }) (v := ?vrrA10) rfl (by kernel_rfl) (by kernel_rfl) (by kernel_rfl) (fun _ _ _ h => h) (Or.inl ⟨by rfl, ?yrrA10⟩) hS ?_
        case yrrA10 =>
          intro w hSw
          have q1 := hSw
          go_simp; all_goals (with_reducible rfl)
        simp only [Act.put, List.setIfInBounds_toArray, List.set_cons_zero, List.set_cons_succ]
        refine wpAnyH_ready (rs := [2]) (by kernel_rfl) (by simp) ?_
        refine (AllReadyH.cons (o := { dst := some 76, op := Op.call { callee := Callee.value (Operand.func 47), args := #[Operand.const (Value.bool true)], argTypes := #[4] }, type := 3, pos := "ref.go:249", after := #[], guard := none }) rfl (fun K hK => ?_) AllReadyH.nil)
        go_simp
        refine (rlengths_yes _).mono ?_
        rintro e x3 ⟨rfl, rfl⟩
        go_wp2_with fail
        refine hK.out _ _ hS (fun _ => ?_)
        clear hK K
        refine wpAnyH_ready (rs := [6]) (by kernel_rfl) (by simp) ?_
        refine (AllReadyH.cons (o := { dst := some 80, op := Op.call { callee := Callee.value (Operand.func 46), args := #[Operand.tmp 74, Operand.tmp 75, Operand.tmp 76, Operand.tmp 77, Operand.tmp 79], argTypes := #[49, 92, 3, 3, 3] }, type := 0, pos := "ref.go:249", after := #[{ on := 0, ground := Ground.data }, { on := 1, ground := Ground.data }, { on := 2, ground := Ground.data }, { on := 3, ground := Ground.data }, { on := 5, ground := Ground.data }, { on := 2, ground := Ground.chain }], guard := none }) rfl (fun K hK => ?_) AllReadyH.nil)
        go_simp
        refine HLEN.out.mono ?_
        rintro e x4 ⟨⟨rfl, hw4⟩, okn⟩
        obtain ⟨Y4, hMn, honn, hYn⟩ := WentR.trans HONc.out HYc.out (wentR_undrew hw4)
        clear hw4 HMc HONc HYc HOKc HLEN
        have HMc := Lib.hid hMn
        have HONc := Lib.hid honn
        have HYc := Lib.hid hYn
        have HOKc := Lib.hid okn
        clear hMn honn hYn okn
        have g4 := cell_only HONc.out hny HSY.out.2.2.1
        go_wp2_with fail
        refine hK.out _ _ g4 (fun _ => ?_)
        clear hK K
        refine wpAnyH_done (by kernel_rfl) ?_ _
        clear hS g3 g4
        clear q22 q42
        obtain ⟨p0, p1, p2, p3, p4⟩ := HSY.out
        have z0 := cell_only HONc.out hny p0
        have z1 := cell_only HONc.out hny p1
        have z2 := cell_only HONc.out hny p2
        have z3 := cell_only HONc.out hny p3
        have z4 := cell_only HONc.out hny p4
        obtain ⟨Pl, vR, vP, hC3, hfin⟩ := HMc.out.bec
        have HBE := Lib.hid (becomes_rep2 C base (lc : Nat) (lp : Nat) (pb : Nat) (st : Nat) r Pl vR vP b (l : Nat) d q _ hC3 (Nat.le_trans HBA.out (Nat.le_trans HBB.out.size HONc.out.size)) HLD.out.1)
        have HFIN := Lib.hid hfin
        clear hC3 hfin p0 p1 p2 p3 p4
        go_wp2_with fail
        refine HBE.out.mono ?_
        intro e w6 h6
        obtain ⟨rfl, Y6, hM6, hon6, hY6⟩ := HFIN.out _ _ _ _ h6
        go_wp2_with fail
        refine bodyPost_ret_by (results_none rfl _ _ _) rfl ?_
        rw [← HQ.out]
        exact ⟨⟨rfl, wentR_below HBB.out (WentR.trans HONc.out HYc.out ⟨Y6, hM6, hon6, hY6⟩)⟩, HOKc.out⟩
      · have hqlt : q < 3 := by have := HLD.out.1; omega
        have hqlti : (q : Int) < 3 := by omega
        have hnq' : n = q := by have := HNN.out; omega
        have hn3b : decide ((n : Int) < 3) = true := decide_eq_true (by omega)
        have hn3i : (n : Int) < 3 := by omega
        have hnqi : (q : Int) ≤ (n : Int) := by omega
        have hnqb : decide ((n : Int) < (q : Int)) = false := decide_eq_false (by omega)
        have HYQ : Hid (((encIo g).bitAt (204 + 12 * q + st) false x').2 = WH) := Lib.hid (by have h := HWH.out; rw [if_pos hqlt] at h; exact h.symm)
        have hq2 : q ≤ 2 := by omega
        clear q20 q40 hnq' hgo
        by_cases hq0 : q = 0
        · by_cases hl1 : l = 1
          · have HYL : Hid (((encIo g).bitAt (240 + 16 * st + p) false WH).2 = z) := Lib.hid (by have h := HZZ.out; rw [if_pos hq0, if_pos hl1] at h; exact h)
            have hq0b : ((q : Int) == 0) = true := by rw [hq0]; rfl
            have hl1b : ((l : Int) == 1) = true := by rw [hl1]; rfl
            have hl2b : decide ((l : Int) > 1) = false := decide_eq_false (by omega)
            clear hq0 hl1
            have q20 := cell_only HONc.out hny HSY.out.2.2.1
            have q40 := cell_only HONc.out hny HSY.out.2.2.2.2
            have HNU := Lib.hid (rwhich_any HMc.out HST.out q hq2)
            obtain ⟨hb, okn⟩ := rebit_is HMc.out (k := k + 19) HOKc.out (i := 204 + 12 * q + st) (by have := HN.out; have := HST.out; omega) false HYQ.out
            have HBI := Lib.hid hb
            clear hb
            go_wp2_with fail
            refine HNU.out.mono ?_
            rintro e x5a ⟨rfl, rfl⟩
            go_wp2_with fail
            refine HBI.out.mono ?_
            rintro e x5 ⟨rfl, hwn⟩
            obtain ⟨Yn, hMn, honn, hYn⟩ := WentR.trans HONc.out HYc.out hwn
            clear hwn HMc HONc HYc HOKc HNU HBI
            have HMc := Lib.hid hMn
            have HONc := Lib.hid honn
            have HYc := Lib.hid hYn
            have HOKc := Lib.hid okn
            clear hMn honn hYn okn
            clear q20 q40
            have q21 := cell_only HONc.out hny HSY.out.2.2.1
            have q41 := cell_only HONc.out hny HSY.out.2.2.2.2
            have HNU := Lib.hid (rlong_any HMc.out HST.out p HP16.out)
            obtain ⟨hb, okn⟩ := rebit_is HMc.out (k := k + 18) HOKc.out (i := 240 + 16 * st + p) (by have := HN.out; have := HST.out; have := HP16.out; omega) false HYL.out
            have HBI := Lib.hid hb
            clear hb
            go_wp2_with fail
            refine HNU.out.mono ?_
            rintro e x6a ⟨rfl, rfl⟩
            go_wp2_with fail
            refine HBI.out.mono ?_
            rintro e x6 ⟨rfl, hwn⟩
            obtain ⟨Yn, hMn, honn, hYn⟩ := WentR.trans HONc.out HYc.out hwn
            clear hwn HMc HONc HYc HOKc HNU HBI
            have HMc := Lib.hid hMn
            have HONc := Lib.hid honn
            have HYc := Lib.hid hYn
            have HOKc := Lib.hid okn
            clear hMn honn hYn okn
            clear q21 q41
            obtain ⟨p0, p1, p2, p3, p4⟩ := HSY.out
            have z0 := cell_only HONc.out hny p0
            have z1 := cell_only HONc.out hny p1
            have z2 := cell_only HONc.out hny p2
            have z3 := cell_only HONc.out hny p3
            have z4 := cell_only HONc.out hny p4
            obtain ⟨Pl, vR, vP, hC3, hfin⟩ := HMc.out.bec
            have HBE := Lib.hid (becomes_rep2 C base (lc : Nat) (lp : Nat) (pb : Nat) (st : Nat) r Pl vR vP b (l : Nat) d q _ hC3 (Nat.le_trans HBA.out (Nat.le_trans HBB.out.size HONc.out.size)) HLD.out.1)
            have HFIN := Lib.hid hfin
            clear hC3 hfin p0 p1 p2 p3 p4
            go_wp2_with fail
            refine HBE.out.mono ?_
            intro e w6 h6
            obtain ⟨rfl, Y6, hM6, hon6, hY6⟩ := HFIN.out _ _ _ _ h6
            go_wp2_with fail
            refine bodyPost_ret_by (results_none rfl _ _ _) rfl ?_
            rw [← HQ.out]
            exact ⟨⟨rfl, wentR_below HBB.out (WentR.trans HONc.out HYc.out ⟨Y6, hM6, hon6, hY6⟩)⟩, (encIo g).le HOKc.out (by omega)⟩
          · obtain ⟨y7, hy7⟩ : ∃ y7, ((encIo g).bitAt (240 + 16 * st + p) true WH).2 = y7 := ⟨_, rfl⟩
            have HYL := Lib.hid hy7
            have HZ : Hid ((Md.len (encIo g) 946 p (l : Nat) y7).2 = z) := Lib.hid (by have h := HZZ.out; rw [if_pos hq0, if_neg hl1, hy7] at h; exact h)
            have hl2 : 2 ≤ l := by omega
            have hl2i : (2 : Int) ≤ (l : Int) := by omega
            have hq0b : ((q : Int) == 0) = true := by rw [hq0]; rfl
            have hl1b : ((l : Int) == 1) = false := beq_eq_false_iff_ne.2 (by omega)
            have hl2b : decide ((l : Int) > 1) = true := decide_eq_true (by omega)
            clear hy7 hq0 hl1
            have q20 := cell_only HONc.out hny HSY.out.2.2.1
            have q40 := cell_only HONc.out hny HSY.out.2.2.2.2
            have HNU := Lib.hid (rwhich_any HMc.out HST.out q hq2)
            obtain ⟨hb, okn⟩ := rebit_is HMc.out (k := k + 19) HOKc.out (i := 204 + 12 * q + st) (by have := HN.out; have := HST.out; omega) false HYQ.out
            have HBI := Lib.hid hb
            clear hb
            go_wp2_with fail
            refine HNU.out.mono ?_
            rintro e x5a ⟨rfl, rfl⟩
            go_wp2_with fail
            refine HBI.out.mono ?_
            rintro e x5 ⟨rfl, hwn⟩
            obtain ⟨Yn, hMn, honn, hYn⟩ := WentR.trans HONc.out HYc.out hwn
            clear hwn HMc HONc HYc HOKc HNU HBI
            have HMc := Lib.hid hMn
            have HONc := Lib.hid honn
            have HYc := Lib.hid hYn
            have HOKc := Lib.hid okn
            clear hMn honn hYn okn
            clear q20 q40
            have q21 := cell_only HONc.out hny HSY.out.2.2.1
            have q41 := cell_only HONc.out hny HSY.out.2.2.2.2
            have HNU := Lib.hid (rlong_any HMc.out HST.out p HP16.out)
            obtain ⟨hb, okn⟩ := rebit_is HMc.out (k := k + 18) HOKc.out (i := 240 + 16 * st + p) (by have := HN.out; have := HST.out; have := HP16.out; omega) true HYL.out
            have HBI := Lib.hid hb
            clear hb
            go_wp2_with fail
            refine HNU.out.mono ?_
            rintro e x6a ⟨rfl, rfl⟩
            go_wp2_with fail
            refine HBI.out.mono ?_
            rintro e x6 ⟨rfl, hwn⟩
            obtain ⟨Yn, hMn, honn, hYn⟩ := WentR.trans HONc.out HYc.out hwn
            clear hwn HMc HONc HYc HOKc HNU HBI
            have HMc := Lib.hid hMn
            have HONc := Lib.hid honn
            have HYc := Lib.hid hYn
            have HOKc := Lib.hid okn
            clear hMn honn hYn okn
            clear q21 q41
            have q22 := cell_only HONc.out hny HSY.out.2.2.1
            have q42 := cell_only HONc.out hny HSY.out.2.2.2.2
            have g3 := cell_only HONc.out hny HSY.out.2.2.1
            have HLEN := Lib.hid (relen_any (HMc.out.drewN 1) (k := k) ((encIo g).le HOKc.out (by omega)) (.inr rfl) HP16.out hl2 HLD.out.2.2 HN.out.1 HN.out.2 HZ.out)
            go_upto_region 17 with fail
            refine wp_region_held_drew (S := fun w2 => w2.cell? ⟨w.heap.size, 2, none⟩ = some (.int .i64 (l : Nat))) (by kernel_rfl) g3 (fun hS => ?_)
            refine wpAnyH_take (i := 0) (oi := { dst := some 74, op := Op.move (Operand.tmp 0), type := 49, pos := "ref.go:249", after := #[], guard := none }) (v := ?vrrD11) rfl (by kernel_rfl) (by kernel_rfl) (by kernel_rfl) (fun _ _ _ h => h) (Or.inl ⟨by rfl, ?yrrD11⟩) hS ?_
            case yrrD11 =>
              intro w hSw
              go_simp; all_goals (with_reducible rfl)
            simp only [Act.put, List.setIfInBounds_toArray, List.set_cons_zero, List.set_cons_succ]
            refine wpAnyH_take (i := 1) (oi := { dst := some 75, op := Op.move (Operand.tmp 1), type := 92, pos := "ref.go:249", after := #[], guard := none }) (v := ?vrrD12) rfl (by kernel_rfl) (by kernel_rfl) (by kernel_rfl) (fun _ _ _ h => h) (Or.inl ⟨by rfl, ?yrrD12⟩) hS ?_
            case yrrD12 =>
              intro w hSw
              go_simp; all_goals (with_reducible rfl)
            simp only [Act.put, List.setIfInBounds_toArray, List.set_cons_zero, List.set_cons_succ]
            refine wpAnyH_take (i := 3) (oi := { dst := some 77, op := Op.move (Operand.tmp 8), type := 3, pos := "ref.go:249", after := #[], guard := none }) (v := ?vrrD13) rfl (by kernel_rfl) (by kernel_rfl) (by kernel_rfl) (fun _ _ _ h => h) (Or.inl ⟨by rfl, ?yrrD13⟩) hS ?_
            case yrrD13 =>
              intro w hSw
              go_simp; all_goals (with_reducible rfl)
            simp only [Act.put, List.setIfInBounds_toArray, List.set_cons_zero, List.set_cons_succ]
            refine wpAnyH_take (i := 4) (oi := { dst := some 78, op := Op.fieldAddr 96 (Operand.tmp 7) 2, type := 0, pos := "ref.go:249", after := #[], guard := none }) (v := ?vrrD14) rfl (by kernel_rfl) (by kernel_rfl) (by kernel_rfl) (fun _ _ _ h => h) (Or.inl ⟨by rfl, ?yrrD14⟩) hS ?_
            case yrrD14 =>
              intro w hSw
              go_simp; all_goals (with_reducible rfl)
            simp only [Act.put, List.setIfInBounds_toArray, List.set_cons_zero, List.set_cons_succ]
            refine wpAnyH_take (i := 5) (oi := { dst := some 79, op := Op.load 3 (Operand.tmp 78), type := 3, pos := "ref.go:249", after := #[{ on := 4, ground := Ground.data }], guard := none }) (v := ?vrrD15) rfl (by kernel_rfl) (by kernel_rfl) (by kernel_rfl) (fun _ _ _ h => h) (Or.inl ⟨by rfl, ?yrrD15⟩) hS ?_
            case yrrD15 =>
              intro w hSw
              have q1 := hSw
              go_simp; all_goals (with_reducible rfl)
            simp only [Act.put, List.setIfInBounds_toArray, List.set_cons_zero, List.set_cons_succ]
            refine wpAnyH_ready (rs := [2]) (by kernel_rfl) (by simp) ?_
            refine (AllReadyH.cons (o := { dst := some 76, op := Op.call { callee := Callee.value (Operand.func 47), args := #[Operand.const (Value.bool true)], argTypes := #[4] }, type := 3, pos := "ref.go:249", after := #[], guard := none }) rfl (fun K hK => ?_) AllReadyH.nil)
            go_simp
            refine (rlengths_yes _).mono ?_
            rintro e x3 ⟨rfl, rfl⟩
            go_wp2_with fail
            refine hK.out _ _ hS (fun _ => ?_)
            clear hK K
            refine wpAnyH_ready (rs := [6]) (by kernel_rfl) (by simp) ?_
            refine (AllReadyH.cons (o := { dst := some 80, op := Op.call { callee := Callee.value (Operand.func 46), args := #[Operand.tmp 74, Operand.tmp 75, Operand.tmp 76, Operand.tmp 77, Operand.tmp 79], argTypes := #[49, 92, 3, 3, 3] }, type := 0, pos := "ref.go:249", after := #[{ on := 0, ground := Ground.data }, { on := 1, ground := Ground.data }, { on := 2, ground := Ground.data }, { on := 3, ground := Ground.data }, { on := 5, ground := Ground.data }, { on := 2, ground := Ground.chain }], guard := none }) rfl (fun K hK => ?_) AllReadyH.nil)
            go_simp
            refine HLEN.out.mono ?_
            rintro e x4 ⟨⟨rfl, hw4⟩, okn⟩
            obtain ⟨Y4, hMn, honn, hYn⟩ := WentR.trans HONc.out HYc.out (wentR_undrew hw4)
            clear hw4 HMc HONc HYc HOKc HLEN
            have HMc := Lib.hid hMn
            have HONc := Lib.hid honn
            have HYc := Lib.hid hYn
            have HOKc := Lib.hid okn
            clear hMn honn hYn okn
            have g4 := cell_only HONc.out hny HSY.out.2.2.1
            go_wp2_with fail
            refine hK.out _ _ g4 (fun _ => ?_)
            clear hK K
            refine wpAnyH_done (by kernel_rfl) ?_ _
            clear hS g3 g4
            clear q22 q42
            obtain ⟨p0, p1, p2, p3, p4⟩ := HSY.out
            have z0 := cell_only HONc.out hny p0
            have z1 := cell_only HONc.out hny p1
            have z2 := cell_only HONc.out hny p2
            have z3 := cell_only HONc.out hny p3
            have z4 := cell_only HONc.out hny p4
            obtain ⟨Pl, vR, vP, hC3, hfin⟩ := HMc.out.bec
            have HBE := Lib.hid (becomes_rep2 C base (lc : Nat) (lp : Nat) (pb : Nat) (st : Nat) r Pl vR vP b (l : Nat) d q _ hC3 (Nat.le_trans HBA.out (Nat.le_trans HBB.out.size HONc.out.size)) HLD.out.1)
            have HFIN := Lib.hid hfin
            clear hC3 hfin p0 p1 p2 p3 p4
            go_wp2_with fail
            refine HBE.out.mono ?_
            intro e w6 h6
            obtain ⟨rfl, Y6, hM6, hon6, hY6⟩ := HFIN.out _ _ _ _ h6
            go_wp2_with fail
            refine bodyPost_ret_by (results_none rfl _ _ _) rfl ?_
            rw [← HQ.out]
            exact ⟨⟨rfl, wentR_below HBB.out (WentR.trans HONc.out HYc.out ⟨Y6, hM6, hon6, hY6⟩)⟩, HOKc.out⟩
        · have HZ : Hid ((Md.len (encIo g) 946 p (l : Nat) WH).2 = z) := Lib.hid (by have h := HZZ.out; rw [if_neg hq0] at h; exact h)
          have hl2 : 2 ≤ l := HLD.out.2.1 hq0
          have hl2i : (2 : Int) ≤ (l : Int) := by omega
          have hq0b : ((q : Int) == 0) = false := beq_eq_false_iff_ne.2 (by omega)
          have hl2b : decide ((l : Int) > 1) = true := decide_eq_true (by omega)
          have q20 := cell_only HONc.out hny HSY.out.2.2.1
          have q40 := cell_only HONc.out hny HSY.out.2.2.2.2
          have HNU := Lib.hid (rwhich_any HMc.out HST.out q hq2)
          obtain ⟨hb, okn⟩ := rebit_is HMc.out (k := k + 19) HOKc.out (i := 204 + 12 * q + st) (by have := HN.out; have := HST.out; omega) false HYQ.out
          have HBI := Lib.hid hb
          clear hb
          go_wp2_with fail
          refine HNU.out.mono ?_
          rintro e x5a ⟨rfl, rfl⟩
          go_wp2_with fail
          refine HBI.out.mono ?_
          rintro e x5 ⟨rfl, hwn⟩
          obtain ⟨Yn, hMn, honn, hYn⟩ := WentR.trans HONc.out HYc.out hwn
          clear hwn HMc HONc HYc HOKc HNU HBI
          have HMc := Lib.hid hMn
          have HONc := Lib.hid honn
          have HYc := Lib.hid hYn
          have HOKc := Lib.hid okn
          clear hMn honn hYn okn
          clear q20 q40
          have q22 := cell_only HONc.out hny HSY.out.2.2.1
          have q42 := cell_only HONc.out hny HSY.out.2.2.2.2
          have g3 := cell_only HONc.out hny HSY.out.2.2.1
          have HLEN := Lib.hid (relen_any (HMc.out.drewN 1) (k := k) ((encIo g).le HOKc.out (by omega)) (.inr rfl) HP16.out hl2 HLD.out.2.2 HN.out.1 HN.out.2 HZ.out)
          go_upto_region 17 with fail
          refine wp_region_held_drew (S := fun w2 => w2.cell? ⟨w.heap.size, 2, none⟩ = some (.int .i64 (l : Nat))) (by kernel_rfl) g3 (fun hS => ?_)
          refine wpAnyH_take (i := 0) (oi := { dst := some 74, op := Op.move (Operand.tmp 0), type := 49, pos := "ref.go:249", after := #[], guard := none }) (v := ?vrrB16) rfl (by kernel_rfl) (by kernel_rfl) (by kernel_rfl) (fun _ _ _ h => h) (Or.inl ⟨by rfl, ?yrrB16⟩) hS ?_
          case yrrB16 =>
            intro w hSw
            go_simp; all_goals (with_reducible rfl)
          simp only [Act.put, List.setIfInBounds_toArray, List.set_cons_zero, List.set_cons_succ]
          refine wpAnyH_take (i := 1) (oi := { dst := some 75, op := Op.move (Operand.tmp 1), type := 92, pos := "ref.go:249", after := #[], guard := none }) (v := ?vrrB17) rfl (by kernel_rfl) (by kernel_rfl) (by kernel_rfl) (fun _ _ _ h => h) (Or.inl ⟨by rfl, ?yrrB17⟩) hS ?_
          case yrrB17 =>
            intro w hSw
            go_simp; all_goals (with_reducible rfl)
          simp only [Act.put, List.setIfInBounds_toArray, List.set_cons_zero, List.set_cons_succ]
          refine wpAnyH_take (i := 3) (oi := { dst := some 77, op := Op.move (Operand.tmp 8), type := 3, pos := "ref.go:249", after := #[], guard := none }) (v := ?vrrB18) rfl (by kernel_rfl) (by kernel_rfl) (by kernel_rfl) (fun _ _ _ h => h) (Or.inl ⟨by rfl, ?yrrB18⟩) hS ?_
          case yrrB18 =>
            intro w hSw
            go_simp; all_goals (with_reducible rfl)
          simp only [Act.put, List.setIfInBounds_toArray, List.set_cons_zero, List.set_cons_succ]
          refine wpAnyH_take (i := 4) (oi := { dst := some 78, op := Op.fieldAddr 96 (Operand.tmp 7) 2, type := 0, pos := "ref.go:249", after := #[], guard := none }) (v := ?vrrB19) rfl (by kernel_rfl) (by kernel_rfl) (by kernel_rfl) (fun _ _ _ h => h) (Or.inl ⟨by rfl, ?yrrB19⟩) hS ?_
          case yrrB19 =>
            intro w hSw
            go_simp; all_goals (with_reducible rfl)
          simp only [Act.put, List.setIfInBounds_toArray, List.set_cons_zero, List.set_cons_succ]
          refine wpAnyH_take (i := 5) (oi := { dst := some 79, op := Op.load 3 (Operand.tmp 78), type := 3, pos := "ref.go:249", after := #[{ on := 4, ground := Ground.data }], guard := none }) (v := ?vrrB20) rfl (by kernel_rfl) (by kernel_rfl) (by kernel_rfl) (fun _ _ _ h => h) (Or.inl ⟨by rfl, ?yrrB20⟩) hS ?_
          case yrrB20 =>
            intro w hSw
            have q1 := hSw
            go_simp; all_goals (with_reducible rfl)
          simp only [Act.put, List.setIfInBounds_toArray, List.set_cons_zero, List.set_cons_succ]
          refine wpAnyH_ready (rs := [2]) (by kernel_rfl) (by simp) ?_
          refine (AllReadyH.cons (o := { dst := some 76, op := Op.call { callee := Callee.value (Operand.func 47), args := #[Operand.const (Value.bool true)], argTypes := #[4] }, type := 3, pos := "ref.go:249", after := #[], guard := none }) rfl (fun K hK => ?_) AllReadyH.nil)
          go_simp
          refine (rlengths_yes _).mono ?_
          rintro e x3 ⟨rfl, rfl⟩
          go_wp2_with fail
          refine hK.out _ _ hS (fun _ => ?_)
          clear hK K
          refine wpAnyH_ready (rs := [6]) (by kernel_rfl) (by simp) ?_
          refine (AllReadyH.cons (o := { dst := some 80, op := Op.call { callee := Callee.value (Operand.func 46), args := #[Operand.tmp 74, Operand.tmp 75, Operand.tmp 76, Operand.tmp 77, Operand.tmp 79], argTypes := #[49, 92, 3, 3, 3] }, type := 0, pos := "ref.go:249", after := #[{ on := 0, ground := Ground.data }, { on := 1, ground := Ground.data }, { on := 2, ground := Ground.data }, { on := 3, ground := Ground.data }, { on := 5, ground := Ground.data }, { on := 2, ground := Ground.chain }], guard := none }) rfl (fun K hK => ?_) AllReadyH.nil)
          go_simp
          refine HLEN.out.mono ?_
          rintro e x4 ⟨⟨rfl, hw4⟩, okn⟩
          obtain ⟨Y4, hMn, honn, hYn⟩ := WentR.trans HONc.out HYc.out (wentR_undrew hw4)
          clear hw4 HMc HONc HYc HOKc HLEN
          have HMc := Lib.hid hMn
          have HONc := Lib.hid honn
          have HYc := Lib.hid hYn
          have HOKc := Lib.hid okn
          clear hMn honn hYn okn
          have g4 := cell_only HONc.out hny HSY.out.2.2.1
          go_wp2_with fail
          refine hK.out _ _ g4 (fun _ => ?_)
          clear hK K
          refine wpAnyH_done (by kernel_rfl) ?_ _
          clear hS g3 g4
          clear q22 q42
          obtain ⟨p0, p1, p2, p3, p4⟩ := HSY.out
          have z0 := cell_only HONc.out hny p0
          have z1 := cell_only HONc.out hny p1
          have z2 := cell_only HONc.out hny p2
          have z3 := cell_only HONc.out hny p3
          have z4 := cell_only HONc.out hny p4
          obtain ⟨Pl, vR, vP, hC3, hfin⟩ := HMc.out.bec
          have HBE := Lib.hid (becomes_rep2 C base (lc : Nat) (lp : Nat) (pb : Nat) (st : Nat) r Pl vR vP b (l : Nat) d q _ hC3 (Nat.le_trans HBA.out (Nat.le_trans HBB.out.size HONc.out.size)) HLD.out.1)
          have HFIN := Lib.hid hfin
          clear hC3 hfin p0 p1 p2 p3 p4
          go_wp2_with fail
          refine HBE.out.mono ?_
          intro e w6 h6
          obtain ⟨rfl, Y6, hM6, hon6, hY6⟩ := HFIN.out _ _ _ _ h6
          go_wp2_with fail
          refine bodyPost_ret_by (results_none rfl _ _ _) rfl ?_
          rw [← HQ.out]
          exact ⟨⟨rfl, wentR_below HBB.out (WentR.trans HONc.out HYc.out ⟨Y6, hM6, hon6, hY6⟩)⟩, HOKc.out⟩
end Go.Proofs.YtklkboplkobhgaaGreat
