/- The reference's Reader: a bit. -/
import Derived.Test.YtkckjjchfccdjaaMg1
import Derived.Test.YtkckjjchfccdjaaRdRef2
import Derived.Test.YtkckjjchfccdjaaMg11
import Derived.Test.YtkckjjchfccdjaaMdMem
import Derived.Test.YtkckjjchfccdjaaMbSim
import Derived.Deep.RegionHeld3
namespace Go.Proofs.Ytkckjjchfccdjaa
set_option maxRecDepth 100000
open Go.RowKit

/-- The reference's Reader: its coder, its chances by number, and its reader of bits. -/
structure RD (w : World) (R C base h b off cc N : Nat) (L : List UInt8) (lc lp pb st : Int) (r : R4) (y : PD) (Y : List Nat) : Prop where
  ex : ∃ (Pl : List Nat) (vR : Value) (gR gP capP : Nat), CodAt w C base lc lp pb st r Pl vR (.slice (some ⟨gP, 0, none⟩) N capP) ∧ vR.ownBlock = some gR ∧ RDecIs w h b off cc L y.2 ∧ Pl.length = N ∧ (∀ i, i < N → Pl[i]? = some (y.1 i)) ∧ Y = [C, gR, gP, h]
  rbox : w.heap[R]? = some (.cells #[PF h, PF C] 71 (0, 0))
  outB : b ∉ Y
  fair : ∀ i, 1 ≤ y.1 i ∧ y.1 i ≤ 2047
def QDone (v : Value) (R C base h b off cc N : Nat) (L : List UInt8) (lc lp pb st : Int) (r : R4) (y : PD) (Y : List Nat) (w : World) (e : Ending) (w' : World) : Prop := e = .returned v ∧ RD w' R C base h b off cc N L lc lp pb st r y Y ∧ Only Y w w'
theorem qrow_ne {w : World} {a b : Nat} {ca cb : Array Value} {ta tb : TypeId} {fa fb : Nat × Nat} (ha : w.heap[a]? = some (.cells ca ta fa)) (hb : w.heap[b]? = some (.cells cb tb fb)) (h : ta ≠ tb) : a ≠ b := by
  intro e
  subst e
  rw [ha] at hb
  injection hb with hb
  injection hb with _ hb _
  exact h hb
theorem OwnV.row {t : TypeId} {base : Nat} {w : World} {g n cap : Nat} {l : List Value} (h : OwnV t base w (.slice (some ⟨g, 0, none⟩) n cap) l) : ∃ cs, w.heap[g]? = some (.cells cs t (0, 0)) := by
  rcases h with ⟨_, ⟨h1, _⟩ | ⟨g', cap', cur, e, _, h3, _⟩⟩
  · cases h1
  · injection e with e1 _ _
    injection e1 with e1
    injection e1 with e1
    subst e1
    exact ⟨cur, h3⟩
set_option maxRecDepth 100000 in
set_option maxHeartbeats 1000000 in
theorem qbit_any {R C base h b off cc N : Nat} {L : List UInt8} {lc lp pb st : Int} {r : R4} {y : PD} {Y : List Nat} {w : World} (hM : RD w R C base h b off cc N L lc lp pb st r y Y) (hs : y.2.ok L) (hl : L.length ≤ 140737488355328) (i : Nat) (hi : i < N) :
    Calls Try.prog 54 #[PF R, .int .i64 (i : Nat)] w (QDone (.int .i64 (bitI (y.2.bit L (y.1 i)).1)) R C base h b off cc N L lc lp pb st r (Md.put y.1 i (Rc.next (y.1 i) (y.2.bit L (y.1 i)).1), (y.2.bit L (y.1 i)).2) Y w) := by
  obtain ⟨Pl, vR, gR, gP, capP, hC, hgR, hE, hPl, hP, rfl⟩ := hM.ex
  have hrb := hM.rbox
  have houtB := hM.outB
  have hfair := hM.fair i
  have hFA := hM.fair
  obtain ⟨p, hp⟩ : ∃ p, y.1 i = p := ⟨_, rfl⟩
  rw [hp] at hfair
  have hbit := rdbit_any h b off cc L y.2 (BitVec.ofNat 16 p) w.drew (by obtain ⟨x, z, h1, h2⟩ := hE; exact ⟨x, z, h1, h2.blk, h2.own, h2.ne, h2.lt⟩) hs hl
  have e0 : (BitVec.ofNat 16 p).toNat = p := by simp; omega
  have e1 : Rc.fair p = p := by unfold Rc.fair; rw [if_neg (by omega)]
  rw [e0, e1] at hbit
  have HBIT := Lib.hid hbit
  rw [hp]
  obtain ⟨⟨bt, y2⟩, hbt⟩ : ∃ t, y.2.bit L p = t := ⟨_, rfl⟩
  rw [hbt] at HBIT ⊢
  simp only at HBIT ⊢
  have hps : w.ownsRow base 34 1 (.slice (some ⟨gP, 0, none⟩) N capP) N (Pl.map fun x => .int .u16 (x : Nat)) := by
    have h0 := hC.ps
    unfold OwnV at h0
    rw [List.length_map, hPl] at h0
    exact h0
  have hce : (Pl.map fun x => Value.int .u16 (x : Nat))[i]? = some (.int .u16 (p : Nat)) := by rw [List.getElem?_map, hP i hi, hp]; rfl
  have hcell : w.cell? ⟨gP, i, none⟩ = some (.int .u16 (p : Nat)) := (World.ownsRow.cellAt hps i (by omega)).trans hce
  have hfz : w.frozen? ⟨gP, i, none⟩ = false := World.ownsRow.frozenAt hps i
  obtain ⟨csP, hrP⟩ := hC.ps.row
  have hRr : ∃ cs, w.heap[gR]? = some (.cells cs 3 (0, 0)) := by
    obtain ⟨g, cap', e, _⟩ := hC.reps.some_of_pos (show 0 < 4 by decide)
    rw [e] at hgR
    injection hgR with hgR
    subst hgR
    have h0 := hC.reps
    rw [e] at h0
    exact h0.row
  obtain ⟨csR, hrR⟩ := hRr
  obtain ⟨xd, yd, _, hD⟩ := id hE
  have n1 : gP ≠ h := qrow_ne hrP hD.blk (by decide)
  have n2 : C ≠ h := qrow_ne hC.box hD.blk (by decide)
  have n3 : gR ≠ h := qrow_ne hrR hD.blk (by decide)
  have n4 : C ≠ gP := qrow_ne hC.box hrP (by decide)
  have n5 : gR ≠ gP := qrow_ne hrR hrP (by decide)
  have n6 : R ≠ h := qrow_ne hrb hD.blk (by decide)
  have n7 : R ≠ gP := qrow_ne hrb hrP (by decide)
  have hc5 : w.cell? ⟨C, 5, none⟩ = some (.slice (some ⟨gP, 0, none⟩) (N : Nat) capP) := hC.cells.2.2.1
  have hr0 : w.cell? ⟨R, 0, none⟩ = some (PF h) := by rw [cell_of_row w _ _ _ _ _ hrb]; rfl
  have hr1 : w.cell? ⟨R, 1, none⟩ = some (PF C) := by rw [cell_of_row w _ _ _ _ _ hrb]; rfl
  have hcapN : N ≤ capP ∧ capP ≤ 9223372036854775807 := by
    rcases hps.2 with ⟨h0, _⟩ | ⟨g', cap', cur, h0, _, _, hnc, hcm, _⟩
    · cases h0
    · injection h0 with _ _ h0
      subst h0
      exact ⟨hnc, by unfold maxLen at hcm; exact hcm⟩
  have HKEEP : Hid (∀ w1, Only [h] w w1 → w1.cell? ⟨R, 0, none⟩ = some (PF h) ∧ w1.cell? ⟨R, 1, none⟩ = some (PF C) ∧ w1.cell? ⟨C, 5, none⟩ = some (.slice (some ⟨gP, 0, none⟩) (N : Nat) capP) ∧ w1.cell? ⟨gP, i, none⟩ = some (.int .u16 (p : Nat)) ∧ w1.frozen? ⟨gP, i, none⟩ = false) := Lib.hid (fun w1 ho =>
    ⟨cell_only ho (by simpa using n6) hr0, cell_only ho (by simpa using n6) hr1, cell_only ho (by simpa using n2) hc5, cell_only ho (by simpa using n1) hcell, frozen_only ho (by simpa using n1) (block_lt_of_cell hcell) hfz⟩)
  have hdr : w.drew.cell? ⟨R, 0, none⟩ = some (PF h) ∧ w.drew.cell? ⟨R, 1, none⟩ = some (PF C) ∧ w.drew.cell? ⟨C, 5, none⟩ = some (.slice (some ⟨gP, 0, none⟩) (N : Nat) capP) ∧ w.drew.cell? ⟨gP, i, none⟩ = some (.int .u16 (p : Nat)) := ⟨hr0, hr1, hc5, hcell⟩
  have HALL := Lib.hid (And.intro hC (And.intro hps (And.intro hgR (And.intro hPl (And.intro hP (And.intro hFA hp))))))
  have HN := Lib.hid (And.intro n7 (And.intro n4 (And.intro n1 (And.intro n2 (And.intro n3 (And.intro n5 n6))))))
  have HRW := Lib.hid (And.intro hrP (And.intro hrR (And.intro hrb houtB)))
  have HFR := Lib.hid hfair
  have hii : (i : Int) < (N : Int) := by omega
  have hNc : (N : Int) ≤ (capP : Int) := by omega
  have hcm : (capP : Int) ≤ 9223372036854775807 := by omega
  clear hM hbit e0 e1 hs hC hps hce hcell hfz hrP hrR hc5 hcapN hPl hP hFA hp hfair hE hgR n1 n2 n3 n4 n5 n6 n7 hrb houtB hr0 hr1 hD hbt
  go_enter Try.func54, Try.ntmps54
  go_upto_region 1 with fail
  refine wp_region_held_drew (S := fun w2 => w2.cell? ⟨R, 0, none⟩ = some (PF h) ∧ w2.cell? ⟨R, 1, none⟩ = some (PF C) ∧ w2.cell? ⟨C, 5, none⟩ = some (.slice (some ⟨gP, 0, none⟩) (N : Nat) capP) ∧ w2.cell? ⟨gP, i, none⟩ = some (.int .u16 (p : Nat))) (by kernel_rfl) hdr (fun hS => ?_)
  refine tk 0 (v := ?vqb1) ?yqb1 hS ?_
  case yqb1 =>
    intro w hSw
    go_simp; all_goals (with_reducible rfl)
  simp only [Act.put, List.setIfInBounds_toArray, List.set_cons_zero, List.set_cons_succ]
  refine tk 1 (v := ?vqb2) ?yqb2 hS ?_
  case yqb2 =>
    intro w hSw
    go_simp; all_goals (with_reducible rfl)
  simp only [Act.put, List.setIfInBounds_toArray, List.set_cons_zero, List.set_cons_succ]
  refine tk 2 (v := ?vqb3) ?yqb3 hS ?_
  case yqb3 =>
    intro w hSw
    go_simp; all_goals (with_reducible rfl)
  simp only [Act.put, List.setIfInBounds_toArray, List.set_cons_zero, List.set_cons_succ]
  refine tk 3 (v := ?vqb4) ?yqb4 hS ?_
  case yqb4 =>
    intro w hSw
    obtain ⟨q0, q1, q2, q3⟩ := hSw
    go_simp; all_goals (with_reducible rfl)
  simp only [Act.put, List.setIfInBounds_toArray, List.set_cons_zero, List.set_cons_succ]
  refine tk 4 (v := ?vqb5) ?yqb5 hS ?_
  case yqb5 =>
    intro w hSw
    go_simp; all_goals (with_reducible rfl)
  simp only [Act.put, List.setIfInBounds_toArray, List.set_cons_zero, List.set_cons_succ]
  refine tk 5 (v := ?vqb6) ?yqb6 hS ?_
  case yqb6 =>
    intro w hSw
    go_simp; all_goals (with_reducible rfl)
  simp only [Act.put, List.setIfInBounds_toArray, List.set_cons_zero, List.set_cons_succ]
  refine tk 6 (v := ?vqb7) ?yqb7 hS ?_
  case yqb7 =>
    intro w hSw
    go_simp; all_goals (with_reducible rfl)
  simp only [Act.put, List.setIfInBounds_toArray, List.set_cons_zero, List.set_cons_succ]
  refine tk 7 (v := ?vqb8) ?yqb8 hS ?_
  case yqb8 =>
    intro w hSw
    obtain ⟨q0, q1, q2, q3⟩ := hSw
    go_simp; all_goals (with_reducible rfl)
  simp only [Act.put, List.setIfInBounds_toArray, List.set_cons_zero, List.set_cons_succ]
  refine tk 8 (v := ?vqb9) ?yqb9 hS ?_
  case yqb9 =>
    intro w hSw
    go_simp; all_goals (with_reducible rfl)
  simp only [Act.put, List.setIfInBounds_toArray, List.set_cons_zero, List.set_cons_succ]
  refine tk 9 (v := ?vqb10) ?yqb10 hS ?_
  case yqb10 =>
    intro w hSw
    go_simp; all_goals (with_reducible rfl)
  simp only [Act.put, List.setIfInBounds_toArray, List.set_cons_zero, List.set_cons_succ]
  refine tk 10 (v := ?vqb11) ?yqb11 hS ?_
  case yqb11 =>
    intro w hSw
    obtain ⟨q0, q1, q2, q3⟩ := hSw
    go_simp; all_goals (with_reducible rfl)
  simp only [Act.put, List.setIfInBounds_toArray, List.set_cons_zero, List.set_cons_succ]
  refine tk 11 (v := ?vqb12) ?yqb12 hS ?_
  case yqb12 =>
    intro w hSw
    go_simp; all_goals (with_reducible rfl)
  simp only [Act.put, List.setIfInBounds_toArray, List.set_cons_zero, List.set_cons_succ]
  refine tk 12 (v := ?vqb13) ?yqb13 hS ?_
  case yqb13 =>
    intro w hSw
    obtain ⟨q0, q1, q2, q3⟩ := hSw
    go_simp; all_goals (with_reducible rfl)
  simp only [Act.put, List.setIfInBounds_toArray, List.set_cons_zero, List.set_cons_succ]
  refine tk 13 (v := ?vqb14) ?yqb14 hS ?_
  case yqb14 =>
    intro w hSw
    obtain ⟨q0, q1, q2, q3⟩ := hSw
    go_simp; all_goals (with_reducible rfl)
  simp only [Act.put, List.setIfInBounds_toArray, List.set_cons_zero, List.set_cons_succ]
  refine wpAnyH_ready (rs := [14]) (by kernel_rfl) (by simp) ?_
  refine (AllReadyH.cons (o := { dst := some 22, op := Op.call { callee := Callee.value (Operand.func 73), args := #[Operand.tmp 11, Operand.tmp 21], argTypes := #[66, 34] }, type := 154, pos := "ref.go:18", after := #[{ on := 3, ground := Ground.data }, { on := 13, ground := Ground.data }], guard := none }) rfl (fun K hK => ?_) AllReadyH.nil)
  go_simp
  refine HBIT.out.mono ?_
  rintro e w1 ⟨rfl, hR1, hon1⟩
  have hon1 := Only.undrew hon1
  have g1 := HKEEP.out w1 hon1
  have HR1 := Lib.hid hR1
  have HO1 := Lib.hid hon1
  clear hR1 hon1
  go_wp2_with fail
  refine hK.out _ _ ⟨g1.1, g1.2.1, g1.2.2.1, g1.2.2.2.1⟩ (fun _ => ?_)
  clear hK K
  refine tk 15 (v := ?vqb15) ?yqb15 ⟨g1.1, g1.2.1, g1.2.2.1, g1.2.2.2.1⟩ ?_
  case yqb15 =>
    intro w hSw
    go_simp; all_goals (with_reducible rfl)
  simp only [Act.put, List.setIfInBounds_toArray, List.set_cons_zero, List.set_cons_succ]
  refine tk 16 (v := ?vqb16) ?yqb16 ⟨g1.1, g1.2.1, g1.2.2.1, g1.2.2.2.1⟩ ?_
  case yqb16 =>
    intro w hSw
    go_simp; all_goals (with_reducible rfl)
  simp only [Act.put, List.setIfInBounds_toArray, List.set_cons_zero, List.set_cons_succ]
  refine tk 17 (v := ?vqb17) ?yqb17 ⟨g1.1, g1.2.1, g1.2.2.1, g1.2.2.2.1⟩ ?_
  case yqb17 =>
    intro w hSw
    go_simp; all_goals (with_reducible rfl)
  simp only [Act.put, List.setIfInBounds_toArray, List.set_cons_zero, List.set_cons_succ]
  refine tk 18 (v := ?vqb18) ?yqb18 ⟨g1.1, g1.2.1, g1.2.2.1, g1.2.2.2.1⟩ ?_
  case yqb18 =>
    intro w hSw
    go_simp; all_goals (with_reducible rfl)
  simp only [Act.put, List.setIfInBounds_toArray, List.set_cons_zero, List.set_cons_succ]
  refine tk 19 (v := ?vqb19) ?yqb19 ⟨g1.1, g1.2.1, g1.2.2.1, g1.2.2.2.1⟩ ?_
  case yqb19 =>
    intro w hSw
    go_simp; all_goals (with_reducible rfl)
  simp only [Act.put, List.setIfInBounds_toArray, List.set_cons_zero, List.set_cons_succ]
  refine wpAnyH_done (by kernel_rfl) ?_ _

  obtain ⟨g10, g11, g12, g13, g14⟩ := g1
  clear hS hdr
  go_wp2_with fail
  go_ret
  obtain ⟨hC, hps, hgR, hPl, hP, hFA, hp⟩ := HALL.out
  obtain ⟨hrP, hrR, hrb, houtB⟩ := HRW.out
  obtain ⟨n7, n4, n1, n2, n3, n5, n6⟩ := HN.out
  have hon := HO1.out
  have hgPlt := (Array.getElem?_eq_some_iff.1 hrP).1
  have bC := hon.block C (Array.getElem?_eq_some_iff.1 hC.box).1 (by simpa using n2)
  have bR := hon.block gR (Array.getElem?_eq_some_iff.1 hrR).1 (by simpa using n3)
  have bP := hon.block gP hgPlt (by simpa using n1)
  have bB := hon.block R (Array.getElem?_eq_some_iff.1 hrb).1 (by simpa using n6)
  obtain ⟨hfl, hfh⟩ := Rc.next_bounds HFR.out.1 HFR.out.2 bt
  have hps1 : w1.ownsRow base 34 1 (.slice (some ⟨gP, 0, none⟩) N capP) N (Pl.map fun x => .int .u16 (x : Nat)) := by
    have h0 := (show OwnV 34 base w (.slice (some ⟨gP, 0, none⟩) N capP) (Pl.map fun x => .int .u16 (x : Nat)) from hC.ps).keep (w' := w1) (fun g e => by injection e with e; subst e; exact bP)
    unfold OwnV at h0
    rw [List.length_map, hPl] at h0
    exact h0
  have hst := (World.ownsRow.stored hps1 i (.int .u16 (Rc.next p bt : Nat))).1
  simp only [List.mem_cons, List.not_mem_nil, or_false, not_or] at houtB
  refine ⟨rfl, ⟨⟨Pl.set i (Rc.next p bt), vR, gR, gP, capP, ⟨?_, ?_, ?_⟩, hgR, ?_, by rw [List.length_set, hPl], fun j hj => ?_, rfl⟩, ?_, by simp only [List.mem_cons, List.not_mem_nil, or_false, not_or]; exact houtB, fun j => ?_⟩, ?_⟩
  · exact (heap_setCell_other _ _ _ _ n4).trans (bC.trans hC.box)
  · exact (hC.reps.keep (w' := w1) (fun g e => by rw [hgR] at e; injection e with e; subst e; exact bR)).setOther (by rw [hgR]; simpa using n5) _
  · show OwnV _ _ _ _ _
    unfold OwnV
    rw [List.length_map, List.length_set, hPl, List.map_set]
    exact hst
  · obtain ⟨x, z, h1, h2⟩ := HR1.out
    exact ⟨x, z, h1, h2.keep (by simp) (heap_setCell_other _ _ _ _ (fun e => n1 e.symm)) (heap_setCell_other _ _ _ _ houtB.2.2.1)⟩
  · by_cases e : j = i
    · subst e
      rw [List.getElem?_set_self (by omega)]
      simp [Md.put]
    · rw [List.getElem?_set_ne (fun h => e h.symm)]
      simp only [Md.put, if_neg e]
      exact hP j hj
  · exact (heap_setCell_other _ _ _ _ n7).trans (bB.trans hrb)
  · show 1 ≤ Md.put y.1 i _ j ∧ Md.put y.1 i _ j ≤ 2047
    unfold Md.put
    split
    · exact ⟨hfl, hfh⟩
    · exact hFA j
  · have h0 : Only [C, gR, gP, h] w w1 := ⟨hon.os, hon.tape, hon.output, hon.size, fun k hk hX => hon.block k hk (fun h2 => hX (by simp at h2; simp [h2]))⟩
    exact h0.setCell (p := ⟨gP, i, none⟩) (.inl (by simp)) _
end Go.Proofs.Ytkckjjchfccdjaa
