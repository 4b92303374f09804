/- Several texts in one: ReBit, ReTree, ReNum, ReSlot, ReLen. -/
import Derived.Test.YtklkboplkobhgaaGreatCoAll
import Derived.Test.YtklkboplkobhgaaGreatRcRefAll
import Derived.Test.YtklkboplkobhgaaGreatMdRoot
import Derived.Deep.RegionHeld3
import Derived.Test.YtklkboplkobhgaaGreatMdTreeL
import Derived.Test.YtklkboplkobhgaaGreatMdLit
import Derived.Test.YtklkboplkobhgaaGreatMdSlotD
/- The reference's coder with its range coder, in memory; a bit. -/
namespace Go.Proofs.YtklkboplkobhgaaGreat
set_option maxRecDepth 100000
open Go.RowKit

theorem Only.undrew1 {X : List Nat} {a b : World} (h : Only X a.drew b) : Only X a b := ⟨h.os, h.tape, h.output, h.size, h.block⟩
/-- The reference's coder, its chances by number, and its range coder. -/
structure RE (w : World) (C base h N : Nat) (lc lp pb st : Int) (r : R4) (x : (Nat → Nat) × Rc.St) (Y : List Nat) : Prop where
  ex : ∃ (Pl : List Nat) (vR : Value) (gR gP capP o cap : Nat), CodAt w C base lc lp pb st r Pl vR (.slice (some ⟨gP, 0, none⟩) N capP) ∧ vR.ownBlock = some gR ∧ RefAt w h o cap x.2 ∧ Pl.length = N ∧ (∀ i, i < N → Pl[i]? = some (x.1 i)) ∧ Y = [C, gR, gP, h, o]
  fair : ∀ i, 1 ≤ x.1 i ∧ x.1 i ≤ 2047
def WentR (C base h N : Nat) (lc lp pb st : Int) (r : R4) (x : (Nat → Nat) × Rc.St) (Y : List Nat) (w w' : World) : Prop := ∃ Y', RE w' C base h N lc lp pb st r x Y' ∧ Only Y w w' ∧ ∀ i ∈ Y', i ∈ Y ∨ w.heap.size ≤ i
def RDone (v : Value) (C base h N : Nat) (lc lp pb st : Int) (r : R4) (x : (Nat → Nat) × Rc.St) (Y : List Nat) (w : World) (e : Ending) (w' : World) : Prop := e = .returned v ∧ WentR C base h N lc lp pb st r x Y w w'
theorem WentR.trans {C base h N : Nat} {lc lp pb st' : Int} {r' : R4} {x' : (Nat → Nat) × Rc.St} {Y Y1 : List Nat} {w w1 w2 : World} (hon : Only Y w w1) (hY : ∀ i ∈ Y1, i ∈ Y ∨ w.heap.size ≤ i) (hh : WentR C base h N lc lp pb st' r' x' Y1 w1 w2) : WentR C base h N lc lp pb st' r' x' Y w w2 := by
  obtain ⟨Y2, hM, hon2, hY2⟩ := hh
  refine ⟨Y2, hM, hon.trans hon2 hY, fun i hi => ?_⟩
  rcases hY2 i hi with h1 | h1
  · exact hY i h1
  · exact .inr (Nat.le_trans hon.size h1)
theorem RefAt.keep2 {w w' : World} {h o cap : Nat} {s : Rc.St} (hR : RefAt w h o cap s) (h1 : w'.heap[h]? = w.heap[h]?) (h2 : w'.heap[o]? = w.heap[o]?) : RefAt w' h o cap s := ⟨h1.trans hR.blk, own_keep hR.own h2, hR.ne⟩
theorem RefAt.row {w : World} {h o cap : Nat} {s : Rc.St} (hR : RefAt w h o cap s) : ∃ cs, w.heap[o]? = some (.cells cs 5 (0, 0)) := by
  rcases hR.own with ⟨_, ⟨h1, _⟩ | ⟨g, cap', cur, e, _, h3, _⟩⟩
  · cases h1
  · injection e with e1 _ _
    injection e1 with e1
    injection e1 with e1
    subst e1
    exact ⟨cur, h3⟩
theorem row_ne {w : World} {a b : Nat} {ca cb : Array Value} {ta tb : TypeId} {fa fb : Nat × Nat} (ha : w.heap[a]? = some (.cells ca ta fa)) (hb : w.heap[b]? = some (.cells cb tb fb)) (h : ta ≠ tb) : a ≠ b := by
  intro e
  subst e
  rw [ha] at hb
  injection hb with hb
  injection hb with _ hb _
  exact h hb
theorem OwnV.row {t : TypeId} {base : Nat} {w : World} {g n cap : Nat} {l : List Value} (h : OwnV t base w (.slice (some ⟨g, 0, none⟩) n cap) l) : ∃ cs, w.heap[g]? = some (.cells cs t (0, 0)) := by
  rcases h with ⟨_, ⟨h1, _⟩ | ⟨g', cap', cur, e, _, h3, _⟩⟩
  · cases h1
  · injection e with e1 _ _
    injection e1 with e1
    injection e1 with e1
    subst e1
    exact ⟨cur, h3⟩
set_option maxRecDepth 100000 in
set_option maxHeartbeats 1000000 in
theorem rebit_any {C base h N : Nat} {lc lp pb st : Int} {r : R4} {x : (Nat → Nat) × Rc.St} {Y : List Nat} {w : World} (hM : RE w C base h N lc lp pb st r x Y) (hs : x.2.ok) (hk : 4 + x.2.k + 2 ≤ 140737488355328) (i : Nat) (hi : i < N) (one : Bool) :
    Calls Tryz.prog 42 #[PF C, PF h, .int .i64 (i : Nat), .int .i64 (bitI one)] w (RDone (.tuple #[]) C base h N lc lp pb st r (Md.put x.1 i (Rc.next (x.1 i) one), Rc.St.scale 2 (x.2.pick (x.1 i) one)) Y w) := by
  obtain ⟨Pl, vR, gR, gP, capP, o, cap, hC, hgR, hE, hPl, hP, rfl⟩ := hM.ex
  have hfair := hM.fair i
  have hFA := hM.fair
  obtain ⟨p, hp⟩ : ∃ p, x.1 i = p := ⟨_, rfl⟩
  rw [hp] at hfair
  have hbit := rbit_any h o cap x.2 (BitVec.ofNat 16 p) one w.drew ⟨hE.blk, hE.own, hE.ne⟩ hs hk
  have e0 : (BitVec.ofNat 16 p).toNat = p := by simp; omega
  have e1 : Rc.fair p = p := by unfold Rc.fair; rw [if_neg (by omega)]
  rw [e0, e1] at hbit
  have HBIT := Lib.hid hbit
  have hps : w.ownsRow base 65 1 (.slice (some ⟨gP, 0, none⟩) N capP) N (Pl.map fun x => .int .u16 (x : Nat)) := by
    have h0 := hC.ps
    unfold OwnV at h0
    rw [List.length_map, hPl] at h0
    exact h0
  have hce : (Pl.map fun x => Value.int .u16 (x : Nat))[i]? = some (.int .u16 (p : Nat)) := by rw [List.getElem?_map, hP i hi, hp]; rfl
  have hcell : w.cell? ⟨gP, i, none⟩ = some (.int .u16 (p : Nat)) := (World.ownsRow.cellAt hps i (by omega)).trans hce
  have hfz : w.frozen? ⟨gP, i, none⟩ = false := World.ownsRow.frozenAt hps i
  obtain ⟨csP, hrP⟩ := hC.ps.row
  have hRr : ∃ cs, w.heap[gR]? = some (.cells cs 3 (0, 0)) := by
    obtain ⟨g, cap', e, _⟩ := hC.reps.some_of_pos (show 0 < 4 by decide)
    rw [e] at hgR
    injection hgR with hgR
    subst hgR
    have h0 := hC.reps
    rw [e] at h0
    exact h0.row
  obtain ⟨csR, hrR⟩ := hRr
  have n1 : gP ≠ h := row_ne hrP hE.blk (by decide)
  have n2 : C ≠ h := row_ne hC.box hE.blk (by decide)
  have n3 : gR ≠ h := row_ne hrR hE.blk (by decide)
  have n4 : C ≠ gP := row_ne hC.box hrP (by decide)
  have n5 : gR ≠ gP := row_ne hrR hrP (by decide)
  have hc5 : w.cell? ⟨C, 5, none⟩ = some (.slice (some ⟨gP, 0, none⟩) (N : Nat) capP) := hC.cells.2.2.1
  have hcapN : N ≤ capP ∧ capP ≤ 9223372036854775807 := by
    rcases hps.2 with ⟨h0, _⟩ | ⟨g', cap', cur, h0, _, _, hnc, hcm, _⟩
    · cases h0
    · injection h0 with _ _ h0
      subst h0
      exact ⟨hnc, by unfold maxLen at hcm; exact hcm⟩
  have HKEEP : Hid (∀ w1, Only [h] w w1 → w1.cell? ⟨C, 5, none⟩ = some (.slice (some ⟨gP, 0, none⟩) (N : Nat) capP) ∧ w1.cell? ⟨gP, i, none⟩ = some (.int .u16 (p : Nat)) ∧ w1.frozen? ⟨gP, i, none⟩ = false) := Lib.hid (fun w1 ho =>
    ⟨cell_only ho (by simpa using n2) hc5, cell_only ho (by simpa using n1) hcell, frozen_only ho (by simpa using n1) (block_lt_of_cell hcell) hfz⟩)
  have hdr : w.drew.cell? ⟨C, 5, none⟩ = some (.slice (some ⟨gP, 0, none⟩) (N : Nat) capP) := hc5
  have hq2 : w.drew.cell? ⟨gP, i, none⟩ = some (.int .u16 (p : Nat)) := hcell
  have HALL := Lib.hid (And.intro hC (And.intro hps (And.intro hgR (And.intro hPl (And.intro hP (And.intro hFA hp))))))
  have HN := Lib.hid (And.intro n1 (And.intro n2 (And.intro n3 (And.intro n4 n5))))
  have HRW := Lib.hid (And.intro hrP hrR)
  have HFR := Lib.hid hfair
  rw [hp]
  have hii : (i : Int) < (N : Int) := by omega
  have hNc : (N : Int) ≤ (capP : Int) := by omega
  have hcm : (capP : Int) ≤ 9223372036854775807 := by omega
  clear hM hbit e0 e1 hs hk hC hps hce hcell hfz hrP hrR hc5 hcapN hPl hP hFA hp hfair hE hgR n1 n2 n3 n4 n5
  go_enter Tryz.func42, Tryz.ntmps42
  refine wp_region_held_drew (S := fun w2 => w2.cell? ⟨C, 5, none⟩ = some (.slice (some ⟨gP, 0, none⟩) (N : Nat) capP)) (by kernel_rfl) hdr (fun hS => ?_)
  refine wpAnyH_take (i := 0) (oi := { dst := some 8, op := Op.move (Operand.tmp 0), type := 49, pos := "ref.go:78", after := #[], guard := none }) (v := ?vbe1) rfl (by kernel_rfl) (by kernel_rfl) (by kernel_rfl) (fun _ _ _ h => h) (Or.inl ⟨by rfl, ?ybe1⟩) hS ?_
  case ybe1 =>
    intro w hSw
    go_simp; all_goals (with_reducible rfl)
  simp only [Act.put, List.setIfInBounds_toArray, List.set_cons_zero, List.set_cons_succ]
  refine wpAnyH_take (i := 1) (oi := { dst := some 9, op := Op.nilCheck (Operand.tmp 8), type := 0, pos := "ref.go:78", after := #[{ on := 0, ground := Ground.data }], guard := none }) (v := ?vbe2) rfl (by kernel_rfl) (by kernel_rfl) (by kernel_rfl) (fun _ _ _ h => h) (Or.inl ⟨by rfl, ?ybe2⟩) hS ?_
  case ybe2 =>
    intro w hSw
    go_simp; all_goals (with_reducible rfl)
  simp only [Act.put, List.setIfInBounds_toArray, List.set_cons_zero, List.set_cons_succ]
  refine wpAnyH_take (i := 2) (oi := { dst := some 10, op := Op.fieldAddr 87 (Operand.tmp 9) 5, type := 0, pos := "ref.go:78", after := #[{ on := 1, ground := Ground.data }], guard := none }) (v := ?vbe3) rfl (by kernel_rfl) (by kernel_rfl) (by kernel_rfl) (fun _ _ _ h => h) (Or.inl ⟨by rfl, ?ybe3⟩) hS ?_
  case ybe3 =>
    intro w hSw
    go_simp; all_goals (with_reducible rfl)
  simp only [Act.put, List.setIfInBounds_toArray, List.set_cons_zero, List.set_cons_succ]
  refine wpAnyH_take (i := 3) (oi := { dst := some 11, op := Op.load 85 (Operand.tmp 10), type := 85, pos := "ref.go:78", after := #[{ on := 2, ground := Ground.data }], guard := none }) (v := ?vbe4) rfl (by kernel_rfl) (by kernel_rfl) (by kernel_rfl) (fun _ _ _ h => h) (Or.inl ⟨by rfl, ?ybe4⟩) hS ?_
  case ybe4 =>
    intro w hSw
    have q1 := hSw
    go_simp; all_goals (with_reducible rfl)
  simp only [Act.put, List.setIfInBounds_toArray, List.set_cons_zero, List.set_cons_succ]
  refine wpAnyH_take (i := 4) (oi := { dst := some 12, op := Op.move (Operand.tmp 2), type := 3, pos := "ref.go:78", after := #[], guard := none }) (v := ?vbe5) rfl (by kernel_rfl) (by kernel_rfl) (by kernel_rfl) (fun _ _ _ h => h) (Or.inl ⟨by rfl, ?ybe5⟩) hS ?_
  case ybe5 =>
    intro w hSw
    go_simp; all_goals (with_reducible rfl)
  simp only [Act.put, List.setIfInBounds_toArray, List.set_cons_zero, List.set_cons_succ]
  refine wpAnyH_take (i := 5) (oi := { dst := some 13, op := Op.move (Operand.tmp 1), type := 92, pos := "ref.go:78", after := #[], guard := none }) (v := ?vbe6) rfl (by kernel_rfl) (by kernel_rfl) (by kernel_rfl) (fun _ _ _ h => h) (Or.inl ⟨by rfl, ?ybe6⟩) hS ?_
  case ybe6 =>
    intro w hSw
    go_simp; all_goals (with_reducible rfl)
  simp only [Act.put, List.setIfInBounds_toArray, List.set_cons_zero, List.set_cons_succ]
  refine wpAnyH_take (i := 6) (oi := { dst := some 14, op := Op.move (Operand.tmp 0), type := 49, pos := "ref.go:78", after := #[], guard := none }) (v := ?vbe7) rfl (by kernel_rfl) (by kernel_rfl) (by kernel_rfl) (fun _ _ _ h => h) (Or.inl ⟨by rfl, ?ybe7⟩) hS ?_
  case ybe7 =>
    intro w hSw
    go_simp; all_goals (with_reducible rfl)
  simp only [Act.put, List.setIfInBounds_toArray, List.set_cons_zero, List.set_cons_succ]
  refine wpAnyH_take (i := 7) (oi := { dst := some 15, op := Op.nilCheck (Operand.tmp 14), type := 0, pos := "ref.go:78", after := #[{ on := 6, ground := Ground.data }], guard := none }) (v := ?vbe8) rfl (by kernel_rfl) (by kernel_rfl) (by kernel_rfl) (fun _ _ _ h => h) (Or.inl ⟨by rfl, ?ybe8⟩) hS ?_
  case ybe8 =>
    intro w hSw
    go_simp; all_goals (with_reducible rfl)
  simp only [Act.put, List.setIfInBounds_toArray, List.set_cons_zero, List.set_cons_succ]
  refine wpAnyH_take (i := 8) (oi := { dst := some 16, op := Op.fieldAddr 87 (Operand.tmp 15) 5, type := 0, pos := "ref.go:78", after := #[{ on := 7, ground := Ground.data }], guard := none }) (v := ?vbe9) rfl (by kernel_rfl) (by kernel_rfl) (by kernel_rfl) (fun _ _ _ h => h) (Or.inl ⟨by rfl, ?ybe9⟩) hS ?_
  case ybe9 =>
    intro w hSw
    go_simp; all_goals (with_reducible rfl)
  simp only [Act.put, List.setIfInBounds_toArray, List.set_cons_zero, List.set_cons_succ]
  refine wpAnyH_take (i := 9) (oi := { dst := some 17, op := Op.load 85 (Operand.tmp 16), type := 85, pos := "ref.go:78", after := #[{ on := 8, ground := Ground.data }], guard := none }) (v := ?vbe10) rfl (by kernel_rfl) (by kernel_rfl) (by kernel_rfl) (fun _ _ _ h => h) (Or.inl ⟨by rfl, ?ybe10⟩) hS ?_
  case ybe10 =>
    intro w hSw
    have q1 := hSw
    go_simp; all_goals (with_reducible rfl)
  simp only [Act.put, List.setIfInBounds_toArray, List.set_cons_zero, List.set_cons_succ]
  refine wpAnyH_take (i := 10) (oi := { dst := some 18, op := Op.move (Operand.tmp 2), type := 3, pos := "ref.go:78", after := #[], guard := none }) (v := ?vbe11) rfl (by kernel_rfl) (by kernel_rfl) (by kernel_rfl) (fun _ _ _ h => h) (Or.inl ⟨by rfl, ?ybe11⟩) hS ?_
  case ybe11 =>
    intro w hSw
    go_simp; all_goals (with_reducible rfl)
  simp only [Act.put, List.setIfInBounds_toArray, List.set_cons_zero, List.set_cons_succ]
  refine wpAnyH_take (i := 11) (oi := { dst := some 19, op := Op.indexAddr 85 (Operand.tmp 17) (Operand.tmp 18), type := 0, pos := "ref.go:78", after := #[{ on := 9, ground := Ground.data }, { on := 10, ground := Ground.data }], guard := none }) (v := ?vbe12) rfl (by kernel_rfl) (by kernel_rfl) (by kernel_rfl) (fun _ _ _ h => h) (Or.inl ⟨by rfl, ?ybe12⟩) hS ?_
  case ybe12 =>
    intro w hSw
    go_simp; all_goals (with_reducible rfl)
  simp only [Act.put, List.setIfInBounds_toArray, List.set_cons_zero, List.set_cons_succ]
  refine wpAnyH_take (i := 13) (oi := { dst := some 21, op := Op.move (Operand.tmp 3), type := 3, pos := "ref.go:78", after := #[], guard := none }) (v := ?vbe13) rfl (by kernel_rfl) (by kernel_rfl) (by kernel_rfl) (fun _ _ _ h => h) (Or.inl ⟨by rfl, ?ybe13⟩) hS ?_
  case ybe13 =>
    intro w hSw
    go_simp; all_goals (with_reducible rfl)
  simp only [Act.put, List.setIfInBounds_toArray, List.set_cons_zero, List.set_cons_succ]
  refine wpAnyH_ready (rs := [12]) (by kernel_rfl) (by simp) ?_
  refine (AllReadyH.cons (o := { dst := some 20, op := Op.load 65 (Operand.tmp 19), type := 65, pos := "ref.go:78", after := #[{ on := 11, ground := Ground.data }], guard := none }) rfl (fun K hK => ?_) AllReadyH.nil)
  go_simp
  go_wp2_with fail
  refine hK.out _ _ hdr (fun _ => ?_)
  clear hK K
  refine wpAnyH_ready (rs := [14]) (by kernel_rfl) (by simp) ?_
  refine (AllReadyH.cons (o := { dst := some 22, op := Op.call { callee := Callee.value (Operand.func 60), args := #[Operand.tmp 13, Operand.tmp 20, Operand.tmp 21], argTypes := #[92, 65, 3] }, type := 65, pos := "ref.go:78", after := #[{ on := 5, ground := Ground.data }, { on := 12, ground := Ground.data }, { on := 13, ground := Ground.data }], guard := none }) rfl (fun K hK => ?_) AllReadyH.nil)
  go_simp
  refine HBIT.out.mono ?_
  rintro e w1 ⟨rfl, o2, cap2, hR2, hon2, ho2⟩
  have hon3 := Only.undrew1 hon2
  obtain ⟨g1, k2, k3⟩ := HKEEP.out w1 hon3
  have HR2 := Lib.hid hR2
  have HO2 := Lib.hid (And.intro hon3 ho2)
  clear hR2 hon2 ho2 hon3
  go_wp2_with fail
  refine hK.out _ _ g1 (fun _ => ?_)
  clear hK K
  refine wpAnyH_take (i := 15) (oi := { dst := some 23, op := Op.indexAddr 85 (Operand.tmp 11) (Operand.tmp 12), type := 0, pos := "ref.go:78", after := #[{ on := 3, ground := Ground.data }, { on := 4, ground := Ground.data }, { on := 0, ground := Ground.phase }, { on := 1, ground := Ground.phase }, { on := 2, ground := Ground.phase }, { on := 3, ground := Ground.phase }, { on := 4, ground := Ground.phase }, { on := 5, ground := Ground.phase }, { on := 6, ground := Ground.phase }, { on := 7, ground := Ground.phase }, { on := 8, ground := Ground.phase }, { on := 9, ground := Ground.phase }, { on := 10, ground := Ground.phase }, { on := 11, ground := Ground.phase }, { on := 12, ground := Ground.phase }, { on := 13, ground := Ground.phase }, { on := 14, ground := Ground.phase }], guard := none }) (v := ?vbe14) rfl (by kernel_rfl) (by kernel_rfl) (by kernel_rfl) (fun _ _ _ h => h) (Or.inl ⟨by rfl, ?ybe14⟩) g1 ?_
  case ybe14 =>
    intro w hSw
    go_simp; all_goals (with_reducible rfl)
  simp only [Act.put, List.setIfInBounds_toArray, List.set_cons_zero, List.set_cons_succ]
  refine wpAnyH_ready (rs := [16]) (by kernel_rfl) (by simp) ?_
  refine (AllReadyH.cons (o := { dst := none, op := Op.store 65 (Operand.tmp 23) (Operand.tmp 22), type := 0, pos := "ref.go:78", after := #[{ on := 15, ground := Ground.data }, { on := 14, ground := Ground.data }, { on := 14, ground := Ground.chain }, { on := 0, ground := Ground.phase }, { on := 1, ground := Ground.phase }, { on := 2, ground := Ground.phase }, { on := 3, ground := Ground.phase }, { on := 4, ground := Ground.phase }, { on := 5, ground := Ground.phase }, { on := 6, ground := Ground.phase }, { on := 7, ground := Ground.phase }, { on := 8, ground := Ground.phase }, { on := 9, ground := Ground.phase }, { on := 10, ground := Ground.phase }, { on := 11, ground := Ground.phase }, { on := 12, ground := Ground.phase }, { on := 13, ground := Ground.phase }, { on := 14, ground := Ground.phase }], guard := none }) rfl (fun K hK => ?_) AllReadyH.nil)
  go_simp
  have g2 := (World.cell?_setCell_other w1 ⟨gP, i, none⟩ ⟨C, 5, none⟩ (.int .u16 (Rc.next p one : Nat)) (fun e => HN.out.2.2.2.1 (congrArg Addr.block e).symm)).trans g1
  go_wp2_with fail
  refine hK.out _ _ g2 (fun _ => ?_)
  clear hK K
  refine wpAnyH_done (by kernel_rfl) ?_ _

  obtain ⟨hC, hps, hgR, hPl, hP, hFA, hp⟩ := HALL.out
  obtain ⟨hrP, hrR⟩ := HRW.out
  obtain ⟨n1, n2, n3, n4, n5⟩ := HN.out
  have hon := HO2.out.1
  have hgPlt := (Array.getElem?_eq_some_iff.1 hrP).1
  have hrP1 := (hon.block gP hgPlt (by simpa using n1)).trans hrP
  have bC := hon.block C (Array.getElem?_eq_some_iff.1 hC.box).1 (by simpa using n2)
  have bR := hon.block gR (Array.getElem?_eq_some_iff.1 hrR).1 (by simpa using n3)
  have bP := hon.block gP hgPlt (by simpa using n1)
  obtain ⟨cs2, hr2⟩ := HR2.out.row
  have n6 : o2 ≠ gP := row_ne hr2 hrP1 (by decide)
  obtain ⟨hfl, hfh⟩ := Rc.next_bounds HFR.out.1 HFR.out.2 one
  have hps1 : w1.ownsRow base 65 1 (.slice (some ⟨gP, 0, none⟩) N capP) N (Pl.map fun x => .int .u16 (x : Nat)) := by
    have h0 := (show OwnV 65 base w (.slice (some ⟨gP, 0, none⟩) N capP) (Pl.map fun x => .int .u16 (x : Nat)) from hC.ps).keep (w' := w1) (fun g e => by injection e with e; subst e; exact bP)
    unfold OwnV at h0
    rw [List.length_map, hPl] at h0
    exact h0
  have hst := (World.ownsRow.stored hps1 i (.int .u16 (Rc.next p one : Nat))).1
  go_end0
  refine ⟨rfl, [C, gR, gP, h, o2], ⟨⟨Pl.set i (Rc.next p one), vR, gR, gP, capP, o2, cap2, ⟨?_, ?_, ?_⟩, hgR, HR2.out.keep2 (heap_setCell_other _ _ _ _ (fun e => n1 e.symm)) (heap_setCell_other _ _ _ _ n6), by rw [List.length_set, hPl], fun j hj => ?_, rfl⟩, fun j => ?_⟩, ?_, ?_⟩
  · exact (heap_setCell_other _ _ _ _ n4).trans (bC.trans hC.box)
  · exact (hC.reps.keep (w' := w1) (fun g e => by rw [hgR] at e; injection e with e; subst e; exact bR)).setOther (by rw [hgR]; simpa using n5) _
  · show OwnV _ _ _ _ _
    unfold OwnV
    rw [List.length_map, List.length_set, hPl, List.map_set]
    exact hst
  · by_cases e : j = i
    · subst e
      rw [List.getElem?_set_self (by omega)]
      simp [Md.put]
    · rw [List.getElem?_set_ne (fun h => e h.symm)]
      simp only [Md.put, if_neg e]
      exact hP j hj
  · show 1 ≤ Md.put x.1 i _ j ∧ Md.put x.1 i _ j ≤ 2047
    unfold Md.put
    split
    · exact ⟨hfl, hfh⟩
    · exact hFA j
  · have h0 : Only [C, gR, gP, h, o] w w1 := ⟨hon.os, hon.tape, hon.output, hon.size, fun k hk hX => hon.block k hk (fun h2 => hX (by simp at h2; simp [h2]))⟩
    exact h0.setCell (p := ⟨gP, i, none⟩) (.inl (by simp)) _
  · intro k hk
    simp only [List.mem_cons, List.not_mem_nil, or_false] at hk ⊢
    rcases hk with rfl | rfl | rfl | rfl | rfl
    · exact .inl (.inl rfl)
    · exact .inl (.inr (.inl rfl))
    · exact .inl (.inr (.inr (.inl rfl)))
    · exact .inl (.inr (.inr (.inr (.inl rfl))))
    · rcases HO2.out.2 with e | e
      · exact .inl (.inr (.inr (.inr (.inr e))))
      · exact .inr e
end Go.Proofs.YtklkboplkobhgaaGreat

/- The reference's trees, over its own range coder. -/
namespace Go.Proofs.YtklkboplkobhgaaGreat
set_option maxRecDepth 100000
open Go.RowKit

theorem RE.st {C base h N : Nat} {lc lp pb st : Int} {r : R4} {x : (Nat → Nat) × Rc.St} {Y : List Nat} {w : World} (hM : RE w C base h N lc lp pb st r x Y) : w.cell? ⟨C, 3, none⟩ = some (.int .i64 st) := by
  obtain ⟨Pl, vR, gR, gP, capP, o, cap, hC, _⟩ := hM.ex
  exact hC.cells.1
theorem rebit_is {g C base h N : Nat} {lc lp pb st : Int} {r : R4} {x : (encIo g).S} {Y : List Nat} {w : World} (hM : RE w C base h N lc lp pb st r x Y) {k : Nat} (hok : (encIo g).ok x.2 (k + 3)) {i : Nat} (hi : i < N) (one : Bool) {y : (encIo g).S} (hy : ((encIo g).bitAt i one x).2 = y) :
    Calls Tryz.prog 42 #[PF C, PF h, .int .i64 (i : Nat), .int .i64 (bitI one)] w (RDone (.tuple #[]) C base h N lc lp pb st r y Y w) ∧ (encIo g).ok y.2 (k + 2) := by
  subst hy
  refine ⟨rebit_any hM hok.1 (by have := hok.2; omega) i hi one, ?_⟩
  exact (encIo g).okBitAt hok (hM.fair i)
theorem wrap64_in (q : Nat) (h : q < 4294967296) : wrap64 (q : Int) = (q : Int) := by unfold wrap64; omega
theorem bitI_of (v j : Nat) : ((v / 2 ^ j % 2 : Nat) : Int) = bitI (Md.bitOf (v : Nat) j) := by
  unfold Md.bitOf bitI
  have e : ((v : Nat) : Int) / 2 ^ j % 2 = ((v / 2 ^ j % 2 : Nat) : Int) := by simp
  rw [e]
  by_cases h : v / 2 ^ j % 2 = 1
  · rw [h]; rfl
  · have h0 : v / 2 ^ j % 2 = 0 := by omega
    rw [h0]; rfl
theorem tdiv_bit {v j B : Nat} (hv : v < 4294967296) (hB : v / 2 ^ j % 2 = B) : (wrap64 ((v : Int) / ((2 ^ j : Nat) : Int))).tmod 2 = (B : Int) := by
  have h0 : v / 2 ^ j ≤ v := Nat.div_le_self _ _
  have e : (v : Int) / ((2 ^ j : Nat) : Int) = ((v / 2 ^ j : Nat) : Int) := by simp
  rw [e]
  generalize v / 2 ^ j = q at *
  have e2 : wrap64 (q : Int) = (q : Int) := wrap64_in q (by omega)
  rw [e2, Int.tmod_eq_emod_of_nonneg (by omega), ← hB]
  omega
theorem bit_toNat (v j : Nat) : (Md.bitOf (v : Nat) j).toNat = v / 2 ^ j % 2 := by
  have h := bitI_of v j
  have h2 : bitI (Md.bitOf (v : Nat) j) = ((Md.bitOf (v : Nat) j).toNat : Int) := by cases Md.bitOf (v : Nat) j <;> rfl
  rw [h2] at h
  omega
set_option maxRecDepth 100000 in
set_option maxHeartbeats 1000000 in
theorem retree_any {g C base h N : Nat} {lc lp pb st : Int} {r : R4} {x : (encIo g).S} {Y : List Nat} {w : World} (hM : RE w C base h N lc lp pb st r x Y) {n : Nat} {k : Nat} (hok : (encIo g).ok x.2 (k + n + 3)) {at_ : Nat} (hn : n ≤ 8) (hat : at_ + 2 ^ n ≤ N) (hN : N ≤ 1000000) (v : Nat) (hv : v < 4294967296) {z : (encIo g).S} (hz : (Md.treeGo (encIo g) at_ (v : Nat) n 1 x).2 = z) :
    Calls Tryz.prog 62 #[PF C, PF h, .int .i64 (at_ : Nat), .int .i64 (n : Nat), .int .i64 (v : Nat)] w (MAnd ((encIo g).ok z.2 (k + 3)) (RDone (.tuple #[]) C base h N lc lp pb st r z Y w)) := by
  obtain ⟨Q, hQ⟩ : ∃ Q, ((encIo g).ok z.2 (k + 3)) = Q := ⟨_, rfl⟩
  rw [hQ]
  have HQ := Lib.hid hQ
  have hni : (n : Int) ≤ 8 := by omega
  have HAT := Lib.hid hat
  have hati : (at_ : Int) ≤ 1000000 := by have := Nat.one_le_two_pow (n := n); omega
  have HZ := Lib.hid hz
  have HMM := Lib.hid hM
  clear hQ hat hz hM
  go_enter Tryz.func62, Tryz.ntmps62
  go_wp2_with fail
  go_loopw [10, 11] (fun ms i wr => ∃ (j m : Nat) (x' : (encIo g).S) (Y' : List Nat), j ≤ n ∧ ms = .int .i64 (m : Nat) ∧ i = .int .i64 ((j : Int) - 1) ∧ 2 ^ (n - j) ≤ m ∧ m < 2 ^ (n - j) * 2 ∧ Hid ((encIo g).ok x'.2 (k + j + 3)) ∧ Hid ((Md.treeGo (encIo g) at_ (v : Nat) j m x').2 = z) ∧ Hid (RE wr C base h N lc lp pb st r x' Y' ∧ Only Y w wr ∧ ∀ i ∈ Y', i ∈ Y ∨ w.heap.size ≤ i)) (fun _ i _ => (intOf i + 1).toNat)
  case atStart => exact ⟨n, 1, x, Y, Nat.le_refl _, rfl, by go_num, by simp, by simp, Lib.hid hok, HZ, Lib.hid ⟨HMM.out, Only.refl _ _, fun i hi => .inl hi⟩⟩
  case round =>
    obtain ⟨j, m, x', Y', hj, rfl, rfl, hm1, hm2, HOK, HT, HM⟩ := hrel
    cases j with
    | zero =>
      clear hm1 hm2
      go_wp2_with fail
      go_end0
      have hzz : x' = z := HT.out
      rw [← hzz] at HQ ⊢
      exact ⟨⟨rfl, Y', HM.out.1, HM.out.2.1, HM.out.2.2⟩, by rw [← HQ.out]; exact HOK.out⟩
    | succ j =>
      have hml : m < 2 ^ n := by
        have e : 2 ^ (n - (j + 1)) * 2 = 2 ^ (n - j) := by rw [← Nat.pow_succ]; congr 1; omega
        have : 2 ^ (n - j) ≤ 2 ^ n := Nat.pow_le_pow_right (by omega) (by omega)
        omega
      have h256 : m < 256 := by
        have : 2 ^ n ≤ 2 ^ 8 := Nat.pow_le_pow_right (by omega) hn
        omega
      have HTWO := Lib.hid (two_any j (by omega) wr)
      obtain ⟨y, hy⟩ : ∃ y, ((encIo g).bitAt (at_ + m) (Md.bitOf (v : Nat) j) x').2 = y := ⟨_, rfl⟩
      obtain ⟨hb, okb⟩ := rebit_is HM.out.1 (k := k + j + 1) (by rw [show k + j + 1 + 3 = k + (j + 1) + 3 by omega]; exact HOK.out) (i := at_ + m) (by have := HAT.out; omega) (Md.bitOf (v : Nat) j) hy
      have HT2 : Hid ((Md.treeGo (encIo g) at_ (v : Nat) j (2 * m + v / 2 ^ j % 2) y).2 = z) := Lib.hid (by
        rw [← HT.out]
        conv => rhs; unfold Md.treeGo
        rw [hy, ← bit_toNat]; rfl)
      rw [← bitI_of] at hb
      obtain ⟨B, hB⟩ : ∃ B, v / 2 ^ j % 2 = B := ⟨_, rfl⟩
      rw [hB] at hb HT2
      have hB1 : B ≤ 1 := by omega
      have HBIT := Lib.hid hb
      have HOK2 := Lib.hid okb
      have HM1 := Lib.hid hm1
      have HM2 := Lib.hid hm2
      have hmi : (m : Int) < 256 := by omega
      have hBi : (B : Int) ≤ 1 := by omega
      have hpw : ((2 ^ j : Nat) : Int) ≠ 0 := by have := Nat.one_le_two_pow (n := j); omega
      have hdv : (wrap64 ((v : Int) / ((2 ^ j : Nat) : Int))).tmod 2 = (B : Int) := tdiv_bit hv hB
      obtain ⟨ai, hai⟩ : ∃ ai, at_ + m = ai := ⟨_, rfl⟩
      have haii : (at_ : Int) + (m : Int) = (ai : Int) := by omega
      rw [hai] at HBIT
      obtain ⟨PW, hPW⟩ : ∃ PW, 2 ^ j = PW := ⟨_, rfl⟩
      rw [hPW] at HTWO hpw hdv
      clear hb okb hm1 hm2 hy hB h256 hPW hai
      go_wp2_with fail
      refine HTWO.out.mono ?_
      rintro e w1 ⟨rfl, rfl⟩
      go_wp2_with fail
      refine HBIT.out.mono ?_
      rintro e w2 ⟨rfl, hw2⟩
      have HW := Lib.hid (WentR.trans HM.out.2.1 HM.out.2.2 hw2)
      clear hw2
      go_wp2_with fail
      obtain ⟨Y3, hM3, hon3, hY3⟩ := HW.out
      have e2 : 2 ^ (n - j) = 2 ^ (n - (j + 1)) * 2 := by rw [← Nat.pow_succ]; congr 1; omega
      exact ⟨⟨j, 2 * m + B, y, Y3, by omega, by go_num, by go_num, by have := HM1.out; omega, by have := HM2.out; omega, HOK2, HT2, Lib.hid ⟨hM3, hon3, hY3⟩⟩, by simp [intOf] <;> omega⟩
set_option maxRecDepth 100000 in
set_option maxHeartbeats 1000000 in
theorem returned_any {g C base h N : Nat} {lc lp pb st : Int} {r : R4} {x : (encIo g).S} {Y : List Nat} {w : World} (hM : RE w C base h N lc lp pb st r x Y) {n : Nat} {k : Nat} (hok : (encIo g).ok x.2 (k + n + 3)) {at_ : Nat} (hn : n ≤ 5) (hat : at_ + 2 ^ n ≤ N) (hN : N ≤ 1000000) (v u : Nat) (hv : v < 4294967296) (hu : ∀ i, i < n → Md.bitOf (u : Nat) i = Md.bitOf (v : Nat) i) {z : (encIo g).S} (hz : (Md.rev (encIo g) at_ n (u : Nat) x).2 = z) :
    Calls Tryz.prog 66 #[PF C, PF h, .int .i64 (at_ : Nat), .int .i64 (n : Nat), .int .i64 (v : Nat)] w (MAnd ((encIo g).ok z.2 (k + 3)) (RDone (.tuple #[]) C base h N lc lp pb st r z Y w)) := by
  obtain ⟨Q, hQ⟩ : ∃ Q, ((encIo g).ok z.2 (k + 3)) = Q := ⟨_, rfl⟩
  rw [hQ]
  have HQ := Lib.hid hQ
  have hni : (n : Int) ≤ 5 := by omega
  have HAT := Lib.hid hat
  have hati : (at_ : Int) ≤ 1000000 := by have := Nat.one_le_two_pow (n := n); omega
  have HZ := Lib.hid hz
  have HMM := Lib.hid hM
  have HU := Lib.hid hu
  clear hQ hat hz hM hu
  go_enter Tryz.func66, Tryz.ntmps66
  go_wp2_with fail
  go_loopw [4, 10, 11] (fun vs ms i wr => ∃ (j m q g2 : Nat) (x' : (encIo g).S) (Y' : List Nat), j ≤ n ∧ vs = .int .i64 (q : Nat) ∧ ms = .int .i64 (m : Nat) ∧ i = .int .i64 (j : Nat) ∧ Hid (q = v / 2 ^ j) ∧ q < 4294967296 ∧ 2 ^ j ≤ m ∧ m < 2 ^ j * 2 ∧ Hid ((encIo g).ok x'.2 (k + (n - j) + 3)) ∧ Hid ((Md.revGo (encIo g) at_ (u : Nat) (n - j) j m g2 x').2 = z) ∧ Hid (RE wr C base h N lc lp pb st r x' Y' ∧ Only Y w wr ∧ ∀ i ∈ Y', i ∈ Y ∨ w.heap.size ≤ i)) (fun _ _ i _ => n - (intOf i).toNat)
  case atStart => exact ⟨0, 1, v, 0, x, Y, Nat.zero_le _, rfl, rfl, rfl, Lib.hid (by simp), hv, by simp, by simp, Lib.hid hok, HZ, Lib.hid ⟨HMM.out, Only.refl _ _, fun i hi => .inl hi⟩⟩
  case round =>
    obtain ⟨j, m, q, g2, x', Y', hj, rfl, rfl, rfl, HQV, hq, hm1, hm2, HOK, HT, HM⟩ := hrel
    by_cases hjn : j < n
    · have hji : (j : Int) < (n : Int) := by omega
      have h32 : 2 ^ j * 2 ≤ 2 ^ n := by rw [← Nat.pow_succ]; exact Nat.pow_le_pow_right (by omega) (by omega)
      have h33 : 2 ^ n ≤ 2 ^ 5 := Nat.pow_le_pow_right (by omega) hn
      have hml : m < 2 ^ n := by omega
      obtain ⟨y, hy⟩ : ∃ y, ((encIo g).bitAt (at_ + m) (Md.bitOf (u : Nat) j) x').2 = y := ⟨_, rfl⟩
      have ho := HOK.out
      rw [show k + (n - j) + 3 = k + (n - (j + 1)) + 1 + 3 by omega] at ho
      obtain ⟨hb, okb⟩ := rebit_is HM.out.1 (k := k + (n - (j + 1)) + 1) ho (i := at_ + m) (by have := HAT.out; omega) (Md.bitOf (u : Nat) j) hy
      have HT2 : Hid (∃ g3, (Md.revGo (encIo g) at_ (u : Nat) (n - (j + 1)) (j + 1) (2 * m + v / 2 ^ j % 2) g3 y).2 = z) := Lib.hid ⟨g2 + (Md.bitOf (u : Nat) j).toNat * 2 ^ j, by
        rw [← HT.out, show n - j = (n - (j + 1)) + 1 by omega]
        conv => rhs; unfold Md.revGo
        rw [hy, ← bit_toNat, ← HU.out j hjn]; rfl⟩
      rw [HU.out j hjn, ← bitI_of] at hb
      rw [← HQV.out] at hb HT2
      obtain ⟨B, hB⟩ : ∃ B, q % 2 = B := ⟨_, rfl⟩
      rw [hB] at hb HT2
      have hB1 : B ≤ 1 := by omega
      have HBIT := Lib.hid hb
      have HOK2 := Lib.hid okb
      have HB1 := Lib.hid hm1
      have HB2 := Lib.hid hm2
      have hmi : (m : Int) < 32 := by omega
      have hBi : (B : Int) ≤ 1 := by omega
      have hdv : ((q : Nat) : Int).tmod 2 = (B : Int) := by rw [Int.tmod_eq_emod_of_nonneg (by omega), ← hB]; omega
      have hqi : (q : Int) < 4294967296 := by omega
      obtain ⟨ai, hai⟩ : ∃ ai, at_ + m = ai := ⟨_, rfl⟩
      have haii : (at_ : Int) + (m : Int) = (ai : Int) := by omega
      rw [hai] at HBIT
      clear hb okb hm1 hm2 hy hB h32 h33 ho hml hai
      go_wp2_with fail
      refine HBIT.out.mono ?_
      rintro e w2 ⟨rfl, hw2⟩
      have HW := Lib.hid (WentR.trans HM.out.2.1 HM.out.2.2 hw2)
      clear hw2
      go_wp2_with fail
      obtain ⟨Y3, hM3, hon3, hY3⟩ := HW.out
      obtain ⟨g3, hg3⟩ := HT2.out
      have e2 : 2 ^ (j + 1) = 2 ^ j * 2 := Nat.pow_succ _ _
      exact ⟨⟨j + 1, 2 * m + B, q / 2, g3, y, Y3, by omega, by go_num, by go_num, by go_num, Lib.hid (by rw [HQV.out, Nat.div_div_eq_div_mul, ← Nat.pow_succ]), by omega, by have := HB1.out; omega, by have := HB2.out; omega, HOK2, Lib.hid hg3, Lib.hid ⟨hM3, hon3, hY3⟩⟩, by simp [intOf] <;> omega⟩
    · obtain rfl : j = n := by omega
      clear hm1 hm2
      go_wp2_with fail
      go_end0
      have hzz := HT.out
      rw [Nat.sub_self] at hzz
      have hz2 : x' = z := hzz
      have ho := HOK.out
      rw [Nat.sub_self] at ho
      rw [← hz2] at HQ ⊢
      exact ⟨⟨rfl, Y', HM.out.1, HM.out.2.1, HM.out.2.2⟩, by rw [← HQ.out]; exact ho⟩
end Go.Proofs.YtklkboplkobhgaaGreat

/- The numbers of the reference's chances. -/
namespace Go.Proofs.YtklkboplkobhgaaGreat
set_option maxRecDepth 100000
open Go.RowKit

section
variable {C base h N : Nat} {lc lp pb st : Nat} {r : R4} {x : (Nat → Nat) × Rc.St} {Y : List Nat} {w : World}
theorem RE.heads (hM : RE w C base h N (lc : Nat) (lp : Nat) (pb : Nat) (st : Nat) r x Y) : w.cell? ⟨C, 0, none⟩ = some (.int .i64 (lc : Nat)) ∧ w.cell? ⟨C, 1, none⟩ = some (.int .i64 (lp : Nat)) ∧ w.cell? ⟨C, 2, none⟩ = some (.int .i64 (pb : Nat)) ∧ w.cell? ⟨C, 3, none⟩ = some (.int .i64 (st : Nat)) := by
  obtain ⟨Pl, vR, gR, gP, capP, o, cap, hC, _⟩ := hM.ex
  refine ⟨?_, ?_, ?_, ?_⟩ <;> (rw [cell_of_row w _ _ _ _ _ hC.box]; rfl)
theorem rmatch_any (hM : RE w C base h N (lc : Nat) (lp : Nat) (pb : Nat) (st : Nat) r x Y) (hst : st < 12) (p : Nat) (hp : p < 16) : Calls Tryz.prog 43 #[PF C, .int .i64 (p : Nat)] w fun e w' => e = .returned (.int .i64 ((16 * st + p : Nat) : Int)) ∧ w = w' := by
  obtain ⟨_, _, _, c3⟩ := hM.heads
  have hsti : (st : Int) < 12 := by omega
  have hpi : (p : Int) < 16 := by omega
  clear hM
  go_enter Tryz.func43, Tryz.ntmps43
  go_wp2_with fail
  go_ret
  exact ⟨by go_num, rfl⟩
theorem rrep_any (hM : RE w C base h N (lc : Nat) (lp : Nat) (pb : Nat) (st : Nat) r x Y) (hst : st < 12) : Calls Tryz.prog 45 #[PF C] w fun e w' => e = .returned (.int .i64 ((192 + st : Nat) : Int)) ∧ w = w' := by
  obtain ⟨_, _, _, c3⟩ := hM.heads
  have hsti : (st : Int) < 12 := by omega
  clear hM
  go_enter Tryz.func45, Tryz.ntmps45
  go_wp2_with fail
  go_ret
  exact ⟨by go_num, rfl⟩
theorem rwhich_any (hM : RE w C base h N (lc : Nat) (lp : Nat) (pb : Nat) (st : Nat) r x Y) (hst : st < 12) (n : Nat) (hn : n ≤ 2) : Calls Tryz.prog 49 #[PF C, .int .i64 (n : Nat)] w fun e w' => e = .returned (.int .i64 ((204 + 12 * n + st : Nat) : Int)) ∧ w = w' := by
  obtain ⟨_, _, _, c3⟩ := hM.heads
  have hsti : (st : Int) < 12 := by omega
  have hni : (n : Int) ≤ 2 := by omega
  clear hM
  go_enter Tryz.func49, Tryz.ntmps49
  go_wp2_with fail
  go_ret
  exact ⟨by go_num, rfl⟩
theorem rlong_any (hM : RE w C base h N (lc : Nat) (lp : Nat) (pb : Nat) (st : Nat) r x Y) (hst : st < 12) (p : Nat) (hp : p < 16) : Calls Tryz.prog 50 #[PF C, .int .i64 (p : Nat)] w fun e w' => e = .returned (.int .i64 ((240 + 16 * st + p : Nat) : Int)) ∧ w = w' := by
  obtain ⟨_, _, _, c3⟩ := hM.heads
  have hsti : (st : Int) < 12 := by omega
  have hpi : (p : Int) < 16 := by omega
  clear hM
  go_enter Tryz.func50, Tryz.ntmps50
  go_wp2_with fail
  go_ret
  exact ⟨by go_num, rfl⟩
theorem rlengths_yes (w : World) : Calls Tryz.prog 47 #[.bool true] w fun e w' => e = .returned (.int .i64 946) ∧ w = w' := by
  go_enter Tryz.func47, Tryz.ntmps47
  go_wp2_with fail
  go_ret
  exact ⟨rfl, rfl⟩
theorem rlengths_no (w : World) : Calls Tryz.prog 47 #[.bool false] w fun e w' => e = .returned (.int .i64 432) ∧ w = w' := by
  go_enter Tryz.func47, Tryz.ntmps47
  go_wp2_with fail
  go_ret
  exact ⟨rfl, rfl⟩
theorem rslots_any (l : Nat) (h2 : 2 ≤ l) (h3 : l ≤ 300) (w : World) : Calls Tryz.prog 65 #[.int .i64 (l : Nat)] w fun e w' => e = .returned (.int .i64 ((1460 + 64 * min (l - 2) 3 : Nat) : Int)) ∧ w = w' := by
  have hli : (l : Int) ≤ 300 := by omega
  have hl2 : (2 : Int) ≤ (l : Int) := by omega
  by_cases hk : 3 < (l : Int) - 2
  · have hK : Hid (min (l - 2) 3 = 3) := Lib.hid (by omega)
    rw [hK.out]
    go_enter Tryz.func65, Tryz.ntmps65
    go_wp2_with fail
    go_ret
    exact ⟨rfl, rfl⟩
  · obtain ⟨K, hK⟩ : ∃ K, min (l - 2) 3 = K := ⟨_, rfl⟩
    have hKi : (l : Int) - 2 = (K : Int) := by omega
    have hK3 : (K : Int) ≤ 3 := by omega
    rw [hK]
    clear hK hk
    have hk : ¬ (3 : Int) < (K : Int) := by omega
    go_enter Tryz.func65, Tryz.ntmps65
    go_wp2_with fail
    go_ret
    exact ⟨by go_num, rfl⟩
theorem rlow_any (s : Nat) (hs : s < 64) (w : World) : Calls Tryz.prog 67 #[.int .i64 (s : Nat)] w fun e w' => e = .returned (.int .i64 ((1716 + 32 * s : Nat) : Int)) ∧ w = w' := by
  have hsi : (s : Int) < 64 := by omega
  go_enter Tryz.func67, Tryz.ntmps67
  go_wp2_with fail
  go_ret
  exact ⟨by go_num, rfl⟩
theorem ralign_any (w : World) : Calls Tryz.prog 69 #[] w fun e w' => e = .returned (.int .i64 2164) ∧ w = w' := by
  go_enter Tryz.func69, Tryz.ntmps69
  go_wp2_with fail
  go_ret
  exact ⟨rfl, rfl⟩
theorem back_any (A : Option Addr) (H : List UInt8) (c : Nat) (a : Int) (w : World) (hB : Bytes w A H) (hc : H.length ≤ c) (hH : H.length ≤ 1000000000) (h1 : 1 ≤ a) (h2 : a ≤ 4294967296) : Calls Tryz.prog 63 #[.slice A H.length c, .int .i64 a] w fun e w' => e = .returned (.int .i64 (Md.likeN H a : Nat)) ∧ w = w' := by
  obtain ⟨LK, hLK⟩ : ∃ LK, Md.likeN H a = LK := ⟨_, rfl⟩
  rw [hLK]
  have hci : (H.length : Int) ≤ (c : Int) := by omega
  have hHi : (H.length : Int) ≤ 1000000000 := by omega
  unfold Md.likeN at hLK
  by_cases hb : a ≤ (H.length : Int)
  · rw [if_pos hb] at hLK
    obtain ⟨z, hz⟩ : ∃ z : Nat, (H.length : Int) - a = (z : Int) := ⟨((H.length : Int) - a).toNat, by omega⟩
    have hzl : (z : Int) < (H.length : Int) := by omega
    have hnb : ¬ (H.length : Int) < a := by omega
    obtain ⟨bb, off, rfl, _, hat⟩ := hB.addr (by omega)
    have cx := hat z (by omega)
    rw [← getD_of] at cx
    rw [show H.length - a.toNat = z by omega] at hLK
    generalize H.getD z 0 = u at *
    have HLK := Lib.hid hLK
    clear hat hLK hB
    go_enter Tryz.func63, Tryz.ntmps63
    go_wp2_with fail
    go_ret
    refine ⟨congrArg (fun n : Int => Ending.returned (Value.int .i64 n)) ?_, rfl⟩
    rw [← HLK.out]
    exact wrap64_of (by omega) (by have := u.toNat_lt; omega)
  · rw [if_neg hb] at hLK
    subst hLK
    have hnb : (H.length : Int) < a := by omega
    clear hB
    go_enter Tryz.func63, Tryz.ntmps63
    go_wp2_with fail
    go_ret
    exact ⟨rfl, rfl⟩
end
end Go.Proofs.YtklkboplkobhgaaGreat

/- The reference's Slot and Table. -/
namespace Go.Proofs.YtklkboplkobhgaaGreat
set_option maxRecDepth 100000
open Go.RowKit

theorem bitLen_small {x : Nat} (h1 : 2 ≤ x) (h2 : x ≤ 3) : Lib.bitLen x = 2 := by
  rcases (by omega : x = 2 ∨ x = 3) with rfl | rfl <;> decide
theorem slot_of {d n : Nat} (h2 : 2 ≤ d / 2 ^ n) (h3 : d / 2 ^ n ≤ 3) (hd : d < 4294967296) (hn : 1 ≤ n) : slotN d = 2 * n + d / 2 ^ n ∧ 4 ≤ d := by
  have hp : 2 ≤ 2 ^ n := by
    have : 2 ^ 1 ≤ 2 ^ n := Nat.pow_le_pow_right (by omega) hn
    omega
  have hle : 2 * 2 ^ n ≤ d := (Nat.le_div_iff_mul_le (by omega)).1 h2
  have h4 : 4 ≤ d := by omega
  have hb : Lib.bitLen d = n + 2 := by
    rw [Lib.bitLen_shift n d (by omega) (by omega), bitLen_small h2 h3]
  refine ⟨?_, h4⟩
  unfold slotN
  rw [if_neg (by omega), hb, Nat.add_sub_cancel]
  omega
def SlotDone (d n : Nat) (w : World) (e : Ending) (w' : World) : Prop := e = .returned (.tuple #[.int .i64 (slotN d : Nat), .int .i64 (n : Nat)]) ∧ w = w'
theorem slotN_n {d n : Nat} (h2 : 2 ≤ d / 2 ^ n) (h3 : d / 2 ^ n ≤ 3) (hd : d < 4294967296) (hn : 1 ≤ n) : slotN d / 2 - 1 = n ∧ 4 ≤ slotN d := by
  have := (slot_of h2 h3 hd hn).1
  omega
set_option maxRecDepth 100000 in
set_option maxHeartbeats 1000000 in
theorem rslot_small (d : Nat) (h : d < 4) (w : World) : Calls Tryz.prog 64 #[.int .i64 (d : Nat)] w (SlotDone d 0 w) := by
  have hdi : (d : Int) < 4 := by omega
  have HS : Hid (slotN d = d) := Lib.hid (by unfold slotN; rw [if_pos h])
  unfold SlotDone
  rw [HS.out]
  go_enter Tryz.func64, Tryz.ntmps64
  go_wp2_with fail
  go_ret2
  exact ⟨rfl, rfl⟩
set_option maxRecDepth 100000 in
set_option maxHeartbeats 1000000 in
theorem rslot_big (d : Nat) (h : 4 ≤ d) (hd : d < 4294967296) (w : World) : Calls Tryz.prog 64 #[.int .i64 (d : Nat)] w (SlotDone d (slotN d / 2 - 1) w) := by
  have hdi : ¬ (d : Int) < 4 := by omega
  have hd0 : (d : Int) < 4294967296 := by omega
  have HD := Lib.hid (And.intro h hd)
  clear h
  go_enter Tryz.func64, Tryz.ntmps64
  go_wp2_with fail
  go_loopw [4, 5] (fun ns xs wr => ∃ (n x : Nat), ns = .int .i64 (n : Nat) ∧ xs = .int .i64 (x : Nat) ∧ Hid (x = d / 2 ^ n) ∧ x < 4294967296 ∧ Hid ((n = 0 ∧ 4 ≤ x) ∨ 2 ≤ x) ∧ n ≤ 30 ∧ Hid (2 ^ n ≤ d) ∧ w = wr) (fun _ xs _ => (intOf xs).toNat)
  case atStart => exact ⟨0, d, rfl, rfl, Lib.hid (by simp), hd, Lib.hid (.inl ⟨rfl, HD.out.1⟩), by omega, Lib.hid (by have := HD.out; simp; omega), rfl⟩
  case round =>
    obtain ⟨n, x, rfl, rfl, HX, hx, HB, hn30, HP, rfl⟩ := hrel
    have hxi : (x : Int) < 4294967296 := by omega
    have hni : (n : Int) ≤ 30 := by omega
    by_cases h3 : 3 < x
    · have h3i : (3 : Int) < (x : Int) := by omega
      have hn29 : n + 1 ≤ 30 := by
        rcases Nat.lt_or_ge n 30 with h | h
        · omega
        · exfalso
          have hx2 := HX.out
          have hd2 := HD.out.2
          have : n = 30 := by omega
          rw [this] at hx2
          omega
      go_wp2_with fail
      exact ⟨⟨n + 1, x / 2, by go_num, by go_num, Lib.hid (by rw [HX.out, Nat.div_div_eq_div_mul, ← Nat.pow_succ]), by omega, Lib.hid (.inr (by omega)), hn29, Lib.hid (by
        have hx2 := HX.out
        have h2 : 2 ≤ d / 2 ^ n := by omega
        have := (Nat.le_div_iff_mul_le (Nat.pow_pos (by decide))).1 h2
        rw [Nat.pow_succ]; omega), trivial⟩, by simp [intOf]; omega⟩
    · have h3i : ¬ (3 : Int) < (x : Int) := by omega
      have hx2 := HX.out
      have hb := HB.out
      have hn1 : 1 ≤ n := by
        rcases hb with ⟨h0, h4⟩ | h
        · omega
        · rcases Nat.eq_zero_or_pos n with h0 | h0
          · subst h0
            have := HD.out.1
            simp at hx2
            omega
          · exact h0
      obtain ⟨hs, _⟩ := slot_of (d := d) (n := n) (by omega) (by omega) HD.out.2 hn1
      obtain ⟨hs2, _⟩ := slotN_n (d := d) (n := n) (by omega) (by omega) HD.out.2 hn1
      have HS := Lib.hid (And.intro hs hs2)
      have HTWO := Lib.hid (two_any n hn30 w)
      have hdv : wrap64 ((d : Int) / ((2 ^ n : Nat) : Int)) = (x : Int) := by
        rw [hx2, show (d : Int) / ((2 ^ n : Nat) : Int) = ((d / 2 ^ n : Nat) : Int) by simp]
        exact wrap64_in _ (by rw [← hx2]; exact hx)
      have hpw : ((2 ^ n : Nat) : Int) ≠ 0 := by have := Nat.one_le_two_pow (n := n); omega
      have hx3 : (x : Int) ≤ 3 := by omega
      rw [← hx2] at HS
      obtain ⟨PW, hPW⟩ : ∃ PW, 2 ^ n = PW := ⟨_, rfl⟩
      rw [hPW] at HTWO hdv hpw
      clear hs hs2 hx2 hb hPW
      go_wp2_with fail
      refine HTWO.out.mono ?_
      rintro e w1 ⟨rfl, rfl⟩
      go_wp2_with fail
      go_ret2
      unfold SlotDone
      rw [HS.out.1, ← HS.out.1, HS.out.2, HS.out.1]
      refine ⟨?_, rfl⟩
      exact congrArg (fun a : Int => Ending.returned (Value.tuple #[.int .i64 a, .int .i64 (n : Nat)])) (by omega)
set_option maxRecDepth 100000 in
set_option maxHeartbeats 1000000 in
theorem rtable_any {C base h N lc lp pb st : Nat} {r : R4} {x : (Nat → Nat) × Rc.St} {Y : List Nat} {w : World} (hM : RE w C base h N (lc : Nat) (lp : Nat) (pb : Nat) (st : Nat) r x Y) (hlc : lc ≤ 4) (hlp : lp ≤ 4) (A : Option Addr) (H : List UInt8) (c : Nat) (hB : Bytes w A H) (hc : H.length ≤ c) (hH : H.length ≤ 1000000000) :
    Calls Tryz.prog 61 #[PF C, .slice A H.length c] w (Tells (.int .i64 ((2180 + 768 * ctxN lc lp H : Nat) : Int)) w) := by
  obtain ⟨c0, c1, _, _⟩ := hM.heads
  have hHi : (H.length : Int) ≤ 1000000000 := by omega
  have HT1 := Lib.hid (two_any lp (by omega) w)
  have HQ1 := Lib.hid (fun (n : Nat) => show Calls Tryz.prog 29 #[.int .i64 (lc : Nat)] (w.drewN n) fun e w'' => e = .returned (.int .i64 (2 ^ lc : Nat)) ∧ ∃ m, w'' = w.drewN m from (two_any lc (by omega) (w.drewN n)).mono fun e w' h => ⟨h.1, n, h.2.symm⟩)
  have HQ2 := Lib.hid (fun (n : Nat) => show Calls Tryz.prog 29 #[.int .i64 ((8 - lc : Nat) : Int)] (w.drewN n) fun e w'' => e = .returned (.int .i64 (2 ^ (8 - lc) : Nat)) ∧ ∃ m, w'' = w.drewN m from (two_any (8 - lc) (by omega) (w.drewN n)).mono fun e w' h => ⟨h.1, n, h.2.symm⟩)
  have HQ3 := Lib.hid (fun (n : Nat) => show Calls Tryz.prog 63 #[.slice A H.length c, .int .i64 1] (w.drewN n) fun e w'' => e = .returned (.int .i64 (Md.likeN H 1 : Nat)) ∧ ∃ m, w'' = w.drewN m from (back_any A H c 1 (w.drewN n) (hB.drewN n) hc hH (by omega) (by omega)).mono fun e w' h => ⟨h.1, n, h.2.symm⟩)
  have hwr : IntKind.i64.wrap (8 - (lc : Int)) = ((8 - lc : Nat) : Int) := by rw [IntKind.wrap_i64]; omega
  have hlk : Md.likeN H 1 < 256 := Md.likeN_lt H 1
  have hctx : ctxN lc lp H = H.length % 2 ^ lp * 2 ^ lc + Md.likeN H 1 / 2 ^ (8 - lc) := by
    unfold ctxN Md.likeN
    by_cases h0 : 0 < H.length
    · rw [if_pos h0, if_pos (by omega)]; rfl
    · rw [if_neg h0, if_neg (by omega)]
  have hck := ctxN_lt (lp := lp) H (show lc ≤ 8 by omega)
  obtain ⟨K, hK⟩ : ∃ K, ctxN lc lp H = K := ⟨_, rfl⟩
  rw [hK] at hctx hck ⊢
  obtain ⟨LK, hLK⟩ : ∃ LK, Md.likeN H 1 = LK := ⟨_, rfl⟩
  rw [hLK] at hctx hlk HQ3
  have h1 : 1 ≤ 2 ^ lp := Nat.one_le_two_pow
  have h2 : 2 ^ lp ≤ 2 ^ 4 := Nat.pow_le_pow_right (by omega) hlp
  have h3 : 2 ^ lc ≤ 2 ^ 4 := Nat.pow_le_pow_right (by omega) hlc
  have h4 : 1 ≤ 2 ^ lc := Nat.one_le_two_pow
  have h5 : 1 ≤ 2 ^ (8 - lc) := Nat.one_le_two_pow
  have h6 : 2 ^ (8 - lc) ≤ 2 ^ 8 := Nat.pow_le_pow_right (by omega) (by omega)
  have h7 : 2 ^ (lc + lp) ≤ 2 ^ 8 := Nat.pow_le_pow_right (by omega) (by omega)
  obtain ⟨P1, hP1⟩ : ∃ P, 2 ^ lp = P := ⟨_, rfl⟩
  obtain ⟨P2, hP2⟩ : ∃ P, 2 ^ lc = P := ⟨_, rfl⟩
  obtain ⟨P3, hP3⟩ : ∃ P, 2 ^ (8 - lc) = P := ⟨_, rfl⟩
  rw [hP1] at HT1 hctx h1 h2
  rw [hP2] at HQ1 hctx h3 h4
  rw [hP3] at HQ2 hctx h5 h6
  obtain ⟨A1, hA1⟩ : ∃ A1, H.length % P1 = A1 := ⟨_, rfl⟩
  have hA1l : A1 < P1 := by rw [← hA1]; exact Nat.mod_lt _ h1
  have htm : ((H.length : Nat) : Int).tmod ((P1 : Nat) : Int) = (A1 : Int) := by rw [Int.tmod_eq_emod_of_nonneg (by omega), ← hA1]; omega
  have hp1 : ((P1 : Nat) : Int) ≠ 0 := by omega
  have hp3 : ((P3 : Nat) : Int) ≠ 0 := by omega
  rw [hA1] at hctx
  have hK256 : K < 256 := by omega
  have HC := Lib.hid (And.intro hctx (And.intro hlk (And.intro hK256 (And.intro hA1l (And.intro h2 (And.intro h3 h5))))))
  clear hM hB hctx hlk hck hK hLK h1 h2 h3 h4 h5 h6 h7 hP1 hP2 hP3 hA1 hA1l hK256
  go_enter Tryz.func61, Tryz.ntmps61
  go_wp2_with fail
  refine HT1.out.mono ?_
  rintro e w1 ⟨rfl, rfl⟩
  go_upto_region 2 with fail
  go_quiet (first | with_reducible exact HQ1.out _ | with_reducible exact HQ2.out _ | with_reducible exact HQ3.out _)
  go_wp2_with fail
  go_ret
  refine ⟨?_, below_drewN (Below.refl _ _) _⟩
  refine congrArg (fun n : Int => Ending.returned (Value.int .i64 n)) ?_
  obtain ⟨g1, g2, g3, g4, g5, g6, g7⟩ := HC.out
  have e1 : (A1 : Int) * (P2 : Int) = ((A1 * P2 : Nat) : Int) := by simp
  have e2 : (LK : Int) / (P3 : Int) = ((LK / P3 : Nat) : Int) := by simp
  have h1 : A1 * P2 ≤ 16 * 16 := Nat.mul_le_mul (by omega) (by omega)
  have h2 : LK / P3 ≤ LK := Nat.div_le_self _ _
  rw [e1, e2, wrap64_in _ (by omega : A1 * P2 < 4294967296), wrap64_in _ (by omega : LK / P3 < 4294967296)]
  rw [show ((A1 * P2 : Nat) : Int) + ((LK / P3 : Nat) : Int) = (K : Int) by omega, wrap64_in _ (by omega : K < 4294967296)]
  rw [show (768 : Int) * (K : Int) = ((768 * K : Nat) : Int) by omega, wrap64_in _ (by omega)]
  rw [show (2180 : Int) + ((768 * K : Nat) : Int) = ((2180 + 768 * K : Nat) : Int) by omega, wrap64_in _ (by omega)]
end Go.Proofs.YtklkboplkobhgaaGreat

/- The reference's lengths. -/
namespace Go.Proofs.YtklkboplkobhgaaGreat
set_option maxRecDepth 100000
open Go.RowKit

theorem treeGo_enc (g at_ v : Nat) : ∀ n m (x : (encIo g).S), (Md.treeGo (encIo g) at_ (v : Nat) n m x).1 = m * 2 ^ n + v % 2 ^ n
  | 0, m, x => by unfold Md.treeGo; simp; omega
  | n + 1, m, x => by
    unfold Md.treeGo
    rw [treeGo_enc g at_ v n]
    have e : ((encIo g).bitAt (at_ + m) (Md.bitOf (v : Nat) n) x).1 = Md.bitOf (v : Nat) n := rfl
    rw [e, bit_toNat, Nat.mod_pow_succ, Nat.pow_succ, Nat.add_mul]
    generalize v / 2 ^ n % 2 = B
    rw [Nat.mul_comm 2 m, Nat.mul_assoc, Nat.mul_comm 2 (2 ^ n), Nat.mul_comm B]
    omega
theorem tree_enc (g at_ v n : Nat) (hv : v < 2 ^ n) (x : (encIo g).S) : (Md.tree (encIo g) at_ n (v : Nat) x).1 = v := by
  unfold Md.tree
  rw [treeGo_enc, Nat.mod_eq_of_lt hv]
  simp
theorem revGo_enc (g at_ v : Nat) : ∀ k i m q (x : (encIo g).S), (Md.revGo (encIo g) at_ (v : Nat) k i m q x).1 = q + v / 2 ^ i % 2 ^ k * 2 ^ i
  | 0, i, m, q, x => by unfold Md.revGo; simp [Nat.mod_one]
  | k + 1, i, m, q, x => by
    unfold Md.revGo
    rw [revGo_enc g at_ v k]
    have e : ((encIo g).bitAt (at_ + m) (Md.bitOf (v : Nat) i) x).1 = Md.bitOf (v : Nat) i := rfl
    rw [e, bit_toNat]
    have e2 : v / 2 ^ (i + 1) = v / 2 ^ i / 2 := by rw [Nat.div_div_eq_div_mul, ← Nat.pow_succ]
    rw [e2]
    generalize v / 2 ^ i = u
    have e3 : u % 2 ^ (k + 1) = u % 2 + 2 * (u / 2 % 2 ^ k) := by
      have h := Nat.div_add_mod (u % 2 ^ (k + 1)) 2
      rw [Nat.pow_succ, Nat.mul_comm (2 ^ k) 2] at h ⊢
      rw [Nat.mod_mul_right_div_self, Nat.mod_mul_right_mod] at h
      omega
    rw [e3, Nat.add_mul, Nat.pow_succ]
    generalize 2 ^ i = P
    generalize u / 2 % 2 ^ k = W
    generalize u % 2 = B
    rw [Nat.mul_comm P 2, ← Nat.mul_assoc W 2 P, Nat.mul_comm W 2]
    omega
theorem rev_enc (g at_ v n : Nat) (x : (encIo g).S) : (Md.rev (encIo g) at_ n (v : Nat) x).1 = v % 2 ^ n := by
  unfold Md.rev
  rw [revGo_enc]
  simp
theorem len_enc (g A p l : Nat) (h2 : 2 ≤ l) (h3 : l ≤ 273) (x : (encIo g).S) : (Md.len (encIo g) A p (l : Nat) x).1 = l := by
  obtain ⟨n, rfl⟩ : ∃ n, l = n + 2 := ⟨l - 2, by omega⟩
  have e0 : ((n + 2 : Nat) : Int) - 2 = (n : Int) := by omega
  unfold Md.len
  simp only [e0]
  have b1 : ((encIo g).bitAt A (decide ((8 : Int) ≤ (n : Int))) x).1 = decide ((8 : Int) ≤ (n : Int)) := rfl
  rw [b1]
  by_cases h8 : 8 ≤ n
  · rw [show decide ((8 : Int) ≤ (n : Int)) = true from decide_eq_true (by omega)]
    simp only [Bool.true_eq_false, if_false]
    by_cases h16 : 16 ≤ n
    · rw [show decide ((16 : Int) ≤ (n : Int)) = true from decide_eq_true (by omega)]
      have b2 : ((encIo g).bitAt (A + 1) true ((encIo g).bitAt A true x).2).1 = true := rfl
      rw [b2]
      simp only [Bool.true_eq_false, if_false]
      rw [show (n : Int) - 16 = ((n - 16 : Nat) : Int) by omega, tree_enc _ _ _ _ (by omega)]
      omega
    · rw [show decide ((16 : Int) ≤ (n : Int)) = false from decide_eq_false (by omega)]
      have b2 : ((encIo g).bitAt (A + 1) false ((encIo g).bitAt A true x).2).1 = false := rfl
      rw [b2]
      simp only [if_true]
      rw [show (n : Int) - 8 = ((n - 8 : Nat) : Int) by omega, tree_enc _ _ _ _ (by omega)]
      omega
  · rw [show decide ((8 : Int) ≤ (n : Int)) = false from decide_eq_false (by omega)]
    simp only [if_true]
    rw [tree_enc _ _ _ _ (by omega)]
    omega
set_option maxRecDepth 100000 in
set_option maxHeartbeats 2000000 in
theorem relen_any {g C base h N : Nat} {lc lp pb st : Int} {r : R4} {x : (encIo g).S} {Y : List Nat} {w : World} (hM : RE w C base h N lc lp pb st r x Y) {k A p l : Nat} (hok : (encIo g).ok x.2 (k + 20)) (hA : A = 432 ∨ A = 946) (hp : p < 16) (h2 : 2 ≤ l) (h3 : l ≤ 273) (hN : 2180 ≤ N) (hN2 : N ≤ 1000000) {z : (encIo g).S} (hz : (Md.len (encIo g) A p (l : Nat) x).2 = z) :
    Calls Tryz.prog 46 #[PF C, PF h, .int .i64 (A : Nat), .int .i64 (p : Nat), .int .i64 (l : Nat)] w (MAnd ((encIo g).ok z.2 k) (RDone (.tuple #[]) C base h N lc lp pb st r z Y w)) := by
  obtain ⟨Q, hQ⟩ : ∃ Q, ((encIo g).ok z.2 k) = Q := ⟨_, rfl⟩
  rw [hQ]
  have HQ := Lib.hid hQ
  have HM := Lib.hid hM
  have HOK := Lib.hid hok
  have HA := Lib.hid hA
  obtain ⟨n, rfl⟩ : ∃ n, l = n + 2 := ⟨l - 2, by omega⟩
  have e0 : ((n + 2 : Nat) : Int) - 2 = (n : Int) := by omega
  unfold Md.len at hz
  simp only [e0] at hz
  have hAi : (A : Int) ≤ 946 := by omega
  have hpi : (p : Int) < 16 := by omega
  have hni : (n : Int) ≤ 271 := by omega
  have e0' : ((n + 2 : Nat) : Int) = (n : Int) + 2 := by omega
  rw [e0']
  clear hQ hM hok e0 e0' h2 h3
  by_cases h8 : 8 ≤ n
  · have h8i : ¬ (n : Int) < 8 := by omega
    have hd8 : decide ((8 : Int) ≤ (n : Int)) = true := decide_eq_true (by omega)
    obtain ⟨y, hy⟩ : ∃ y, ((encIo g).bitAt A true x).2 = y := ⟨_, rfl⟩
    have b1 : ((encIo g).bitAt A true x).1 = true := rfl
    rw [hd8, b1, hy] at hz
    simp only [Bool.true_eq_false, if_false] at hz
    obtain ⟨h1, ok1⟩ := rebit_is HM.out (k := k + 17) HOK.out (i := A) (by have := HA.out; omega) true hy
    have H1 := Lib.hid h1
    have HOK1 := Lib.hid ok1
    clear hd8 b1 hy h1 ok1
    by_cases h16 : 16 ≤ n
    · have h16i : ¬ (n : Int) < 16 := by omega
      have hd16 : decide ((16 : Int) ≤ (n : Int)) = true := decide_eq_true (by omega)
      obtain ⟨y2, hy⟩ : ∃ y2, ((encIo g).bitAt (A + 1) true y).2 = y2 := ⟨_, rfl⟩
      have b1 : ((encIo g).bitAt (A + 1) true y).1 = true := rfl
      rw [hd16, b1, hy] at hz
      simp only [Bool.true_eq_false, if_false] at hz
      obtain ⟨m, hm⟩ : ∃ m, n - 16 = m := ⟨_, rfl⟩
      have hmi : (n : Int) - 16 = (m : Int) := by omega
      rw [hmi] at hz
      have HY := Lib.hid hy
      have hzz : (Md.treeGo (encIo g) (A + 258) (m : Nat) 8 1 y2).2 = z := hz
      have HZ := Lib.hid hzz
      have HMM := Lib.hid hm
      clear hz hd16 b1 hy hzz hm
      go_enter Tryz.func46, Tryz.ntmps46
      go_wp2_with fail
      refine H1.out.mono ?_
      rintro e w1 ⟨rfl, Y1, hM1, hon1, hY1⟩
      have HO1 := Lib.hid (And.intro hon1 hY1)
      obtain ⟨h1, ok1⟩ := rebit_is hM1 (k := k + 16) HOK1.out (i := A + 1) (by have := HA.out; omega) true HY.out
      have H2 := Lib.hid h1
      have HOK2 := Lib.hid ok1
      clear hM1 hon1 hY1 h1 ok1
      go_wp2_with fail
      refine H2.out.mono ?_
      rintro e w2 ⟨rfl, hw2⟩
      obtain ⟨Y2, hM2, hon2, hY2⟩ := WentR.trans HO1.out.1 HO1.out.2 hw2
      have HO2 := Lib.hid (And.intro hon2 hY2)
      have H3 := Lib.hid (retree_any hM2 (n := 8) (k := k + 7) HOK2.out (at_ := A + 258) (by omega) (by have := HA.out; omega) hN2 m (by have := HMM.out; omega) HZ.out)
      clear hM2 hon2 hY2 hw2
      go_wp2_with fail
      refine H3.out.mono ?_
      rintro e w3 ⟨⟨rfl, hw3⟩, ok3⟩
      go_wp2_with fail
      go_end0
      exact ⟨⟨rfl, WentR.trans HO2.out.1 HO2.out.2 hw3⟩, by rw [← HQ.out]; exact (encIo g).le ok3 (by omega)⟩
    · have h16i : (n : Int) < 16 := by omega
      have hd16 : decide ((16 : Int) ≤ (n : Int)) = false := decide_eq_false (by omega)
      obtain ⟨y2, hy⟩ : ∃ y2, ((encIo g).bitAt (A + 1) false y).2 = y2 := ⟨_, rfl⟩
      have b1 : ((encIo g).bitAt (A + 1) false y).1 = false := rfl
      rw [hd16, b1, hy] at hz
      simp only [if_true] at hz
      obtain ⟨m, hm⟩ : ∃ m, n - 8 = m := ⟨_, rfl⟩
      have hmi : (n : Int) - 8 = (m : Int) := by omega
      rw [hmi] at hz
      have HY := Lib.hid hy
      have hzz : (Md.treeGo (encIo g) (A + 130 + 8 * p) (m : Nat) 3 1 y2).2 = z := hz
      have HZ := Lib.hid hzz
      have HMM := Lib.hid hm
      clear hz hd16 b1 hy hzz hm
      go_enter Tryz.func46, Tryz.ntmps46
      go_wp2_with fail
      refine H1.out.mono ?_
      rintro e w1 ⟨rfl, Y1, hM1, hon1, hY1⟩
      have HO1 := Lib.hid (And.intro hon1 hY1)
      obtain ⟨h1, ok1⟩ := rebit_is hM1 (k := k + 16) HOK1.out (i := A + 1) (by have := HA.out; omega) false HY.out
      have H2 := Lib.hid h1
      have HOK2 := Lib.hid ok1
      clear hM1 hon1 hY1 h1 ok1
      go_wp2_with fail
      refine H2.out.mono ?_
      rintro e w2 ⟨rfl, hw2⟩
      obtain ⟨Y2, hM2, hon2, hY2⟩ := WentR.trans HO1.out.1 HO1.out.2 hw2
      have HO2 := Lib.hid (And.intro hon2 hY2)
      have H3 := Lib.hid (retree_any hM2 (n := 3) (k := k + 12) HOK2.out (at_ := A + 130 + 8 * p) (by omega) (by have := HA.out; omega) hN2 m (by have := HMM.out; omega) HZ.out)
      clear hM2 hon2 hY2 hw2
      go_wp2_with fail
      refine H3.out.mono ?_
      rintro e w3 ⟨⟨rfl, hw3⟩, ok3⟩
      go_wp2_with fail
      go_end0
      exact ⟨⟨rfl, WentR.trans HO2.out.1 HO2.out.2 hw3⟩, by rw [← HQ.out]; exact (encIo g).le ok3 (by omega)⟩
  · have h8i : (n : Int) < 8 := by omega
    have hd8 : decide ((8 : Int) ≤ (n : Int)) = false := decide_eq_false (by omega)
    obtain ⟨y, hy⟩ : ∃ y, ((encIo g).bitAt A false x).2 = y := ⟨_, rfl⟩
    have b1 : ((encIo g).bitAt A false x).1 = false := rfl
    rw [hd8, b1, hy] at hz
    simp only [if_true] at hz
    obtain ⟨h1, ok1⟩ := rebit_is HM.out (k := k + 17) HOK.out (i := A) (by have := HA.out; omega) false hy
    have hzz : (Md.treeGo (encIo g) (A + 2 + 8 * p) (n : Nat) 3 1 y).2 = z := hz
    have HZ := Lib.hid hzz
    have H1 := Lib.hid h1
    have HOK1 := Lib.hid ok1
    clear hd8 b1 hy h1 ok1 hz hzz
    go_enter Tryz.func46, Tryz.ntmps46
    go_wp2_with fail
    refine H1.out.mono ?_
    rintro e w1 ⟨rfl, Y1, hM1, hon1, hY1⟩
    have HO1 := Lib.hid (And.intro hon1 hY1)
    have H3 := Lib.hid (retree_any hM1 (n := 3) (k := k + 13) HOK1.out (at_ := A + 2 + 8 * p) (by omega) (by have := HA.out; omega) hN2 n (by omega) HZ.out)
    clear hM1 hon1 hY1
    go_wp2_with fail
    refine H3.out.mono ?_
    rintro e w3 ⟨⟨rfl, hw3⟩, ok3⟩
    go_wp2_with fail
    go_end0
    exact ⟨⟨rfl, WentR.trans HO1.out.1 HO1.out.2 hw3⟩, by rw [← HQ.out]; exact (encIo g).le ok3 (by omega)⟩
end Go.Proofs.YtklkboplkobhgaaGreat
