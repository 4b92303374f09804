/- Several texts in one: QrBit, QrTree, QrNum, QrLen, QrDist. -/
import Derived.Test.YtdkimllfpiphgaaRdRefAll
import Derived.Test.YtdkimllfpiphgaaCoNew
import Derived.Test.YtdkimllfpiphgaaMdMem
import Derived.Test.YtdkimllfpiphgaaMbSimAll
import Derived.Deep.RegionHeld3
import Derived.Test.YtdkimllfpiphgaaMdDist
import Derived.Test.YtdkimllfpiphgaaMdLit
import Derived.Test.YtdkimllfpiphgaaMdSlot
import Derived.Test.YtdkimllfpiphgaaMdRept
/- The reference's Reader: a bit. -/
namespace Go.Proofs.Ytdkimllfpiphgaa
open Go.RowKit

/-- The reference's Reader: its coder, its chances by number, and its reader of bits. -/
structure RD (w : World) (R C base h b off cc N : Nat) (L : List UInt8) (lc lp pb st : Int) (r : R4) (y : PD) (Y : List Nat) : Prop where
  ex : ∃ (Pl : List Nat) (vR : Value) (gR gP capP : Nat), CodAt w C base lc lp pb st r Pl vR (.slice (some ⟨gP, 0, none⟩) N capP) ∧ vR.ownBlock = some gR ∧ RDecIs w h b off cc L y.2 ∧ Pl.length = N ∧ (∀ i, i < N → Pl[i]? = some (y.1 i)) ∧ Y = [C, gR, gP, h]
  rbox : w.heap[R]? = some (.cells #[PF h, PF C] 41 (0, 0))
  outB : b ∉ Y
  fair : ∀ i, 1 ≤ y.1 i ∧ y.1 i ≤ 2047
def QDone (v : Value) (R C base h b off cc N : Nat) (L : List UInt8) (lc lp pb st : Int) (r : R4) (y : PD) (Y : List Nat) (w : World) (e : Ending) (w' : World) : Prop := e = .returned v ∧ RD w' R C base h b off cc N L lc lp pb st r y Y ∧ Only Y w w'
theorem qrow_ne {w : World} {a b : Nat} {ca cb : Array Value} {ta tb : TypeId} {fa fb : Nat × Nat} (ha : w.heap[a]? = some (.cells ca ta fa)) (hb : w.heap[b]? = some (.cells cb tb fb)) (h : ta ≠ tb) : a ≠ b := by
  intro e
  subst e
  rw [ha] at hb
  injection hb with hb
  injection hb with _ hb _
  exact h hb
theorem OwnV.row {t : TypeId} {base : Nat} {w : World} {g n cap : Nat} {l : List Value} (h : OwnV t base w (.slice (some ⟨g, 0, none⟩) n cap) l) : ∃ cs, w.heap[g]? = some (.cells cs t (0, 0)) := by
  rcases h with ⟨_, ⟨h1, _⟩ | ⟨g', cap', cur, e, _, h3, _⟩⟩
  · cases h1
  · injection e with e1 _ _
    injection e1 with e1
    injection e1 with e1
    subst e1
    exact ⟨cur, h3⟩
set_option maxRecDepth 100000 in
set_option maxHeartbeats 1000000 in
theorem qbit_any {R C base h b off cc N : Nat} {L : List UInt8} {lc lp pb st : Int} {r : R4} {y : PD} {Y : List Nat} {w : World} (hM : RD w R C base h b off cc N L lc lp pb st r y Y) (hs : y.2.ok L) (hl : L.length ≤ 140737488355328) (i : Nat) (hi : i < N) :
    Calls Try.prog 37 #[PF R, .int .i64 (i : Nat)] w (QDone (.int .i64 (bitI (y.2.bit L (y.1 i)).1)) R C base h b off cc N L lc lp pb st r (Md.put y.1 i (Rc.next (y.1 i) (y.2.bit L (y.1 i)).1), (y.2.bit L (y.1 i)).2) Y w) := by
  obtain ⟨Pl, vR, gR, gP, capP, hC, hgR, hE, hPl, hP, rfl⟩ := hM.ex
  have hrb := hM.rbox
  have houtB := hM.outB
  have hfair := hM.fair i
  have hFA := hM.fair
  obtain ⟨p, hp⟩ : ∃ p, y.1 i = p := ⟨_, rfl⟩
  rw [hp] at hfair
  have hbit := rdbit_any h b off cc L y.2 (BitVec.ofNat 16 p) w.drew (by obtain ⟨x, z, h1, h2⟩ := hE; exact ⟨x, z, h1, h2.blk, h2.own, h2.ne, h2.lt⟩) hs hl
  have e0 : (BitVec.ofNat 16 p).toNat = p := by simp; omega
  have e1 : Rc.fair p = p := by unfold Rc.fair; rw [if_neg (by omega)]
  rw [e0, e1] at hbit
  have HBIT := Lib.hid hbit
  rw [hp]
  obtain ⟨⟨bt, y2⟩, hbt⟩ : ∃ t, y.2.bit L p = t := ⟨_, rfl⟩
  rw [hbt] at HBIT ⊢
  simp only at HBIT ⊢
  have hps : w.ownsRow base 69 1 (.slice (some ⟨gP, 0, none⟩) N capP) N (Pl.map fun x => .int .u16 (x : Nat)) := by
    have h0 := hC.ps
    unfold OwnV at h0
    rw [List.length_map, hPl] at h0
    exact h0
  have hce : (Pl.map fun x => Value.int .u16 (x : Nat))[i]? = some (.int .u16 (p : Nat)) := by rw [List.getElem?_map, hP i hi, hp]; rfl
  have hcell : w.cell? ⟨gP, i, none⟩ = some (.int .u16 (p : Nat)) := (World.ownsRow.cellAt hps i (by omega)).trans hce
  have hfz : w.frozen? ⟨gP, i, none⟩ = false := World.ownsRow.frozenAt hps i
  obtain ⟨csP, hrP⟩ := hC.ps.row
  have hRr : ∃ cs, w.heap[gR]? = some (.cells cs 3 (0, 0)) := by
    obtain ⟨g, cap', e, _⟩ := hC.reps.some_of_pos (show 0 < 4 by decide)
    rw [e] at hgR
    injection hgR with hgR
    subst hgR
    have h0 := hC.reps
    rw [e] at h0
    exact h0.row
  obtain ⟨csR, hrR⟩ := hRr
  obtain ⟨xd, yd, _, hD⟩ := id hE
  have n1 : gP ≠ h := qrow_ne hrP hD.blk (by decide)
  have n2 : C ≠ h := qrow_ne hC.box hD.blk (by decide)
  have n3 : gR ≠ h := qrow_ne hrR hD.blk (by decide)
  have n4 : C ≠ gP := qrow_ne hC.box hrP (by decide)
  have n5 : gR ≠ gP := qrow_ne hrR hrP (by decide)
  have n6 : R ≠ h := qrow_ne hrb hD.blk (by decide)
  have n7 : R ≠ gP := qrow_ne hrb hrP (by decide)
  have hc5 : w.cell? ⟨C, 5, none⟩ = some (.slice (some ⟨gP, 0, none⟩) (N : Nat) capP) := hC.cells.2.2.1
  have hr0 : w.cell? ⟨R, 0, none⟩ = some (PF h) := by rw [cell_of_row w _ _ _ _ _ hrb]; rfl
  have hr1 : w.cell? ⟨R, 1, none⟩ = some (PF C) := by rw [cell_of_row w _ _ _ _ _ hrb]; rfl
  have hcapN : N ≤ capP ∧ capP ≤ 9223372036854775807 := by
    rcases hps.2 with ⟨h0, _⟩ | ⟨g', cap', cur, h0, _, _, hnc, hcm, _⟩
    · cases h0
    · injection h0 with _ _ h0
      subst h0
      exact ⟨hnc, by unfold maxLen at hcm; exact hcm⟩
  have HKEEP : Hid (∀ w1, Only [h] w w1 → w1.cell? ⟨R, 0, none⟩ = some (PF h) ∧ w1.cell? ⟨R, 1, none⟩ = some (PF C) ∧ w1.cell? ⟨C, 5, none⟩ = some (.slice (some ⟨gP, 0, none⟩) (N : Nat) capP) ∧ w1.cell? ⟨gP, i, none⟩ = some (.int .u16 (p : Nat)) ∧ w1.frozen? ⟨gP, i, none⟩ = false) := Lib.hid (fun w1 ho =>
    ⟨cell_only ho (by simpa using n6) hr0, cell_only ho (by simpa using n6) hr1, cell_only ho (by simpa using n2) hc5, cell_only ho (by simpa using n1) hcell, frozen_only ho (by simpa using n1) (block_lt_of_cell hcell) hfz⟩)
  have hdr : w.drew.cell? ⟨R, 0, none⟩ = some (PF h) ∧ w.drew.cell? ⟨R, 1, none⟩ = some (PF C) ∧ w.drew.cell? ⟨C, 5, none⟩ = some (.slice (some ⟨gP, 0, none⟩) (N : Nat) capP) ∧ w.drew.cell? ⟨gP, i, none⟩ = some (.int .u16 (p : Nat)) := ⟨hr0, hr1, hc5, hcell⟩
  have HALL := Lib.hid (And.intro hC (And.intro hps (And.intro hgR (And.intro hPl (And.intro hP (And.intro hFA hp))))))
  have HN := Lib.hid (And.intro n7 (And.intro n4 (And.intro n1 (And.intro n2 (And.intro n3 (And.intro n5 n6))))))
  have HRW := Lib.hid (And.intro hrP (And.intro hrR (And.intro hrb houtB)))
  have HFR := Lib.hid hfair
  have hii : (i : Int) < (N : Int) := by omega
  have hNc : (N : Int) ≤ (capP : Int) := by omega
  have hcm : (capP : Int) ≤ 9223372036854775807 := by omega
  clear hM hbit e0 e1 hs hC hps hce hcell hfz hrP hrR hc5 hcapN hPl hP hFA hp hfair hE hgR n1 n2 n3 n4 n5 n6 n7 hrb houtB hr0 hr1 hD hbt
  go_enter Try.func37, Try.ntmps37
  go_upto_region 1 with fail
  refine wp_region_held_drew (S := fun w2 => w2.cell? ⟨R, 0, none⟩ = some (PF h) ∧ w2.cell? ⟨R, 1, none⟩ = some (PF C) ∧ w2.cell? ⟨C, 5, none⟩ = some (.slice (some ⟨gP, 0, none⟩) (N : Nat) capP) ∧ w2.cell? ⟨gP, i, none⟩ = some (.int .u16 (p : Nat))) (by kernel_rfl) hdr (fun hS => ?_)
  refine wpAnyH_take (i := 0) (oi := { dst := some 8, op := Op.move (Operand.tmp 0), type := 37, pos := "ref.go:18", after := #[], guard := none }) (v := ?vqb1) rfl (by kernel_rfl) (by kernel_rfl) (by kernel_rfl) (fun _ _ _ h => h) (Or.inl ⟨by rfl, ?yqb1⟩) hS ?_
  case yqb1 =>
    intro w hSw
    go_simp; all_goals (with_reducible rfl)
  simp only [Act.put, List.setIfInBounds_toArray, List.set_cons_zero, List.set_cons_succ]
  refine wpAnyH_take (i := 1) (oi := { dst := some 9, op := Op.nilCheck (Operand.tmp 8), type := 0, pos := "ref.go:18", after := #[{ on := 0, ground := Ground.data }], guard := none }) (v := ?vqb2) rfl (by kernel_rfl) (by kernel_rfl) (by kernel_rfl) (fun _ _ _ h => h) (Or.inl ⟨by rfl, ?yqb2⟩) hS ?_
  case yqb2 =>
    intro w hSw
    go_simp; all_goals (with_reducible rfl)
  simp only [Act.put, List.setIfInBounds_toArray, List.set_cons_zero, List.set_cons_succ]
  refine wpAnyH_take (i := 2) (oi := { dst := some 10, op := Op.fieldAddr 41 (Operand.tmp 9) 0, type := 0, pos := "ref.go:18", after := #[{ on := 1, ground := Ground.data }], guard := none }) (v := ?vqb3) rfl (by kernel_rfl) (by kernel_rfl) (by kernel_rfl) (fun _ _ _ h => h) (Or.inl ⟨by rfl, ?yqb3⟩) hS ?_
  case yqb3 =>
    intro w hSw
    go_simp; all_goals (with_reducible rfl)
  simp only [Act.put, List.setIfInBounds_toArray, List.set_cons_zero, List.set_cons_succ]
  refine wpAnyH_take (i := 3) (oi := { dst := some 11, op := Op.load 32 (Operand.tmp 10), type := 32, pos := "ref.go:18", after := #[{ on := 2, ground := Ground.data }], guard := none }) (v := ?vqb4) rfl (by kernel_rfl) (by kernel_rfl) (by kernel_rfl) (fun _ _ _ h => h) (Or.inl ⟨by rfl, ?yqb4⟩) hS ?_
  case yqb4 =>
    intro w hSw
    obtain ⟨q0, q1, q2, q3⟩ := hSw
    go_simp; all_goals (with_reducible rfl)
  simp only [Act.put, List.setIfInBounds_toArray, List.set_cons_zero, List.set_cons_succ]
  refine wpAnyH_take (i := 4) (oi := { dst := some 12, op := Op.move (Operand.tmp 0), type := 37, pos := "ref.go:18", after := #[], guard := none }) (v := ?vqb5) rfl (by kernel_rfl) (by kernel_rfl) (by kernel_rfl) (fun _ _ _ h => h) (Or.inl ⟨by rfl, ?yqb5⟩) hS ?_
  case yqb5 =>
    intro w hSw
    go_simp; all_goals (with_reducible rfl)
  simp only [Act.put, List.setIfInBounds_toArray, List.set_cons_zero, List.set_cons_succ]
  refine wpAnyH_take (i := 5) (oi := { dst := some 13, op := Op.nilCheck (Operand.tmp 12), type := 0, pos := "ref.go:18", after := #[{ on := 4, ground := Ground.data }], guard := none }) (v := ?vqb6) rfl (by kernel_rfl) (by kernel_rfl) (by kernel_rfl) (fun _ _ _ h => h) (Or.inl ⟨by rfl, ?yqb6⟩) hS ?_
  case yqb6 =>
    intro w hSw
    go_simp; all_goals (with_reducible rfl)
  simp only [Act.put, List.setIfInBounds_toArray, List.set_cons_zero, List.set_cons_succ]
  refine wpAnyH_take (i := 6) (oi := { dst := some 14, op := Op.fieldAddr 41 (Operand.tmp 13) 1, type := 0, pos := "ref.go:18", after := #[{ on := 5, ground := Ground.data }], guard := none }) (v := ?vqb7) rfl (by kernel_rfl) (by kernel_rfl) (by kernel_rfl) (fun _ _ _ h => h) (Or.inl ⟨by rfl, ?yqb7⟩) hS ?_
  case yqb7 =>
    intro w hSw
    go_simp; all_goals (with_reducible rfl)
  simp only [Act.put, List.setIfInBounds_toArray, List.set_cons_zero, List.set_cons_succ]
  refine wpAnyH_take (i := 7) (oi := { dst := some 15, op := Op.load 38 (Operand.tmp 14), type := 38, pos := "ref.go:18", after := #[{ on := 6, ground := Ground.data }], guard := none }) (v := ?vqb8) rfl (by kernel_rfl) (by kernel_rfl) (by kernel_rfl) (fun _ _ _ h => h) (Or.inl ⟨by rfl, ?yqb8⟩) hS ?_
  case yqb8 =>
    intro w hSw
    obtain ⟨q0, q1, q2, q3⟩ := hSw
    go_simp; all_goals (with_reducible rfl)
  simp only [Act.put, List.setIfInBounds_toArray, List.set_cons_zero, List.set_cons_succ]
  refine wpAnyH_take (i := 8) (oi := { dst := some 16, op := Op.nilCheck (Operand.tmp 15), type := 0, pos := "ref.go:18", after := #[{ on := 7, ground := Ground.data }], guard := none }) (v := ?vqb9) rfl (by kernel_rfl) (by kernel_rfl) (by kernel_rfl) (fun _ _ _ h => h) (Or.inl ⟨by rfl, ?yqb9⟩) hS ?_
  case yqb9 =>
    intro w hSw
    go_simp; all_goals (with_reducible rfl)
  simp only [Act.put, List.setIfInBounds_toArray, List.set_cons_zero, List.set_cons_succ]
  refine wpAnyH_take (i := 9) (oi := { dst := some 17, op := Op.fieldAddr 48 (Operand.tmp 16) 5, type := 0, pos := "ref.go:18", after := #[{ on := 8, ground := Ground.data }], guard := none }) (v := ?vqb10) rfl (by kernel_rfl) (by kernel_rfl) (by kernel_rfl) (fun _ _ _ h => h) (Or.inl ⟨by rfl, ?yqb10⟩) hS ?_
  case yqb10 =>
    intro w hSw
    go_simp; all_goals (with_reducible rfl)
  simp only [Act.put, List.setIfInBounds_toArray, List.set_cons_zero, List.set_cons_succ]
  refine wpAnyH_take (i := 10) (oi := { dst := some 18, op := Op.load 46 (Operand.tmp 17), type := 46, pos := "ref.go:18", after := #[{ on := 9, ground := Ground.data }], guard := none }) (v := ?vqb11) rfl (by kernel_rfl) (by kernel_rfl) (by kernel_rfl) (fun _ _ _ h => h) (Or.inl ⟨by rfl, ?yqb11⟩) hS ?_
  case yqb11 =>
    intro w hSw
    obtain ⟨q0, q1, q2, q3⟩ := hSw
    go_simp; all_goals (with_reducible rfl)
  simp only [Act.put, List.setIfInBounds_toArray, List.set_cons_zero, List.set_cons_succ]
  refine wpAnyH_take (i := 11) (oi := { dst := some 19, op := Op.move (Operand.tmp 1), type := 3, pos := "ref.go:18", after := #[], guard := none }) (v := ?vqb12) rfl (by kernel_rfl) (by kernel_rfl) (by kernel_rfl) (fun _ _ _ h => h) (Or.inl ⟨by rfl, ?yqb12⟩) hS ?_
  case yqb12 =>
    intro w hSw
    go_simp; all_goals (with_reducible rfl)
  simp only [Act.put, List.setIfInBounds_toArray, List.set_cons_zero, List.set_cons_succ]
  refine wpAnyH_take (i := 12) (oi := { dst := some 20, op := Op.indexAddr 46 (Operand.tmp 18) (Operand.tmp 19), type := 0, pos := "ref.go:18", after := #[{ on := 10, ground := Ground.data }, { on := 11, ground := Ground.data }], guard := none }) (v := ?vqb13) rfl (by kernel_rfl) (by kernel_rfl) (by kernel_rfl) (fun _ _ _ h => h) (Or.inl ⟨by rfl, ?yqb13⟩) hS ?_
  case yqb13 =>
    intro w hSw
    obtain ⟨q0, q1, q2, q3⟩ := hSw
    go_simp; all_goals (with_reducible rfl)
  simp only [Act.put, List.setIfInBounds_toArray, List.set_cons_zero, List.set_cons_succ]
  refine wpAnyH_take (i := 13) (oi := { dst := some 21, op := Op.load 69 (Operand.tmp 20), type := 69, pos := "ref.go:18", after := #[{ on := 12, ground := Ground.data }], guard := none }) (v := ?vqb14) rfl (by kernel_rfl) (by kernel_rfl) (by kernel_rfl) (fun _ _ _ h => h) (Or.inl ⟨by rfl, ?yqb14⟩) hS ?_
  case yqb14 =>
    intro w hSw
    obtain ⟨q0, q1, q2, q3⟩ := hSw
    go_simp; all_goals (with_reducible rfl)
  simp only [Act.put, List.setIfInBounds_toArray, List.set_cons_zero, List.set_cons_succ]
  refine wpAnyH_ready (rs := [14]) (by kernel_rfl) (by simp) ?_
  refine (AllReadyH.cons (o := { dst := some 22, op := Op.call { callee := Callee.value (Operand.func 53), args := #[Operand.tmp 11, Operand.tmp 21], argTypes := #[32, 69] }, type := 105, pos := "ref.go:18", after := #[{ on := 3, ground := Ground.data }, { on := 13, ground := Ground.data }], guard := none }) rfl (fun K hK => ?_) AllReadyH.nil)
  go_simp
  refine HBIT.out.mono ?_
  rintro e w1 ⟨rfl, hR1, hon1⟩
  have hon1 := Only.undrew hon1
  have g1 := HKEEP.out w1 hon1
  have HR1 := Lib.hid hR1
  have HO1 := Lib.hid hon1
  clear hR1 hon1
  go_wp2_with fail
  refine hK.out _ _ ⟨g1.1, g1.2.1, g1.2.2.1, g1.2.2.2.1⟩ (fun _ => ?_)
  clear hK K
  refine wpAnyH_take (i := 15) (oi := { dst := some 7, op := Op.move (Operand.tmp 22), type := 105, pos := "ref.go:18", after := #[{ on := 14, ground := Ground.data }], guard := none }) (v := ?vqb15) rfl (by kernel_rfl) (by kernel_rfl) (by kernel_rfl) (fun _ _ _ h => h) (Or.inl ⟨by rfl, ?yqb15⟩) ⟨g1.1, g1.2.1, g1.2.2.1, g1.2.2.2.1⟩ ?_
  case yqb15 =>
    intro w hSw
    go_simp; all_goals (with_reducible rfl)
  simp only [Act.put, List.setIfInBounds_toArray, List.set_cons_zero, List.set_cons_succ]
  refine wpAnyH_take (i := 16) (oi := { dst := some 23, op := Op.extract (Operand.tmp 7) 0, type := 3, pos := "ref.go:18", after := #[{ on := 15, ground := Ground.data }], guard := none }) (v := ?vqb16) rfl (by kernel_rfl) (by kernel_rfl) (by kernel_rfl) (fun _ _ _ h => h) (Or.inl ⟨by rfl, ?yqb16⟩) ⟨g1.1, g1.2.1, g1.2.2.1, g1.2.2.2.1⟩ ?_
  case yqb16 =>
    intro w hSw
    go_simp; all_goals (with_reducible rfl)
  simp only [Act.put, List.setIfInBounds_toArray, List.set_cons_zero, List.set_cons_succ]
  refine wpAnyH_take (i := 17) (oi := { dst := some 24, op := Op.extract (Operand.tmp 7) 1, type := 69, pos := "ref.go:18", after := #[{ on := 15, ground := Ground.data }, { on := 18, ground := Ground.gcOnly Departure.lateStores }], guard := none }) (v := ?vqb17) rfl (by kernel_rfl) (by kernel_rfl) (by kernel_rfl) (fun _ _ _ h => h) (Or.inl ⟨by rfl, ?yqb17⟩) ⟨g1.1, g1.2.1, g1.2.2.1, g1.2.2.2.1⟩ ?_
  case yqb17 =>
    intro w hSw
    go_simp; all_goals (with_reducible rfl)
  simp only [Act.put, List.setIfInBounds_toArray, List.set_cons_zero, List.set_cons_succ]
  refine wpAnyH_take (i := 18) (oi := { dst := some 5, op := Op.assign (Operand.tmp 23), type := 3, pos := "ref.go:18", after := #[{ on := 16, ground := Ground.data }, { on := 14, ground := Ground.chain }, { on := 0, ground := Ground.phase }, { on := 1, ground := Ground.phase }, { on := 2, ground := Ground.phase }, { on := 3, ground := Ground.phase }, { on := 4, ground := Ground.phase }, { on := 5, ground := Ground.phase }, { on := 6, ground := Ground.phase }, { on := 7, ground := Ground.phase }, { on := 8, ground := Ground.phase }, { on := 9, ground := Ground.phase }, { on := 10, ground := Ground.phase }, { on := 11, ground := Ground.phase }, { on := 12, ground := Ground.phase }, { on := 13, ground := Ground.phase }, { on := 14, ground := Ground.phase }, { on := 15, ground := Ground.phase }, { on := 16, ground := Ground.phase }, { on := 17, ground := Ground.textOnly Departure.lateStores }], guard := none }) (v := ?vqb18) rfl (by kernel_rfl) (by kernel_rfl) (by kernel_rfl) (fun _ _ _ h => h) (Or.inl ⟨by rfl, ?yqb18⟩) ⟨g1.1, g1.2.1, g1.2.2.1, g1.2.2.2.1⟩ ?_
  case yqb18 =>
    intro w hSw
    go_simp; all_goals (with_reducible rfl)
  simp only [Act.put, List.setIfInBounds_toArray, List.set_cons_zero, List.set_cons_succ]
  refine wpAnyH_take (i := 19) (oi := { dst := some 6, op := Op.assign (Operand.tmp 24), type := 69, pos := "ref.go:18", after := #[{ on := 17, ground := Ground.data }, { on := 18, ground := Ground.chain }, { on := 0, ground := Ground.phase }, { on := 1, ground := Ground.phase }, { on := 2, ground := Ground.phase }, { on := 3, ground := Ground.phase }, { on := 4, ground := Ground.phase }, { on := 5, ground := Ground.phase }, { on := 6, ground := Ground.phase }, { on := 7, ground := Ground.phase }, { on := 8, ground := Ground.phase }, { on := 9, ground := Ground.phase }, { on := 10, ground := Ground.phase }, { on := 11, ground := Ground.phase }, { on := 12, ground := Ground.phase }, { on := 13, ground := Ground.phase }, { on := 14, ground := Ground.phase }, { on := 15, ground := Ground.phase }, { on := 16, ground := Ground.phase }, { on := 17, ground := Ground.phase }, { on := 18, ground := Ground.phase }], guard := none }) (v := ?vqb19) rfl (by kernel_rfl) (by kernel_rfl) (by kernel_rfl) (fun _ _ _ h => h) (Or.inl ⟨by rfl, ?yqb19⟩) ⟨g1.1, g1.2.1, g1.2.2.1, g1.2.2.2.1⟩ ?_
  case yqb19 =>
    intro w hSw
    go_simp; all_goals (with_reducible rfl)
  simp only [Act.put, List.setIfInBounds_toArray, List.set_cons_zero, List.set_cons_succ]
  refine wpAnyH_done (by kernel_rfl) ?_ _

  obtain ⟨g10, g11, g12, g13, g14⟩ := g1
  clear hS hdr
  go_wp2_with fail
  go_ret
  obtain ⟨hC, hps, hgR, hPl, hP, hFA, hp⟩ := HALL.out
  obtain ⟨hrP, hrR, hrb, houtB⟩ := HRW.out
  obtain ⟨n7, n4, n1, n2, n3, n5, n6⟩ := HN.out
  have hon := HO1.out
  have hgPlt := (Array.getElem?_eq_some_iff.1 hrP).1
  have bC := hon.block C (Array.getElem?_eq_some_iff.1 hC.box).1 (by simpa using n2)
  have bR := hon.block gR (Array.getElem?_eq_some_iff.1 hrR).1 (by simpa using n3)
  have bP := hon.block gP hgPlt (by simpa using n1)
  have bB := hon.block R (Array.getElem?_eq_some_iff.1 hrb).1 (by simpa using n6)
  obtain ⟨hfl, hfh⟩ := Rc.next_bounds HFR.out.1 HFR.out.2 bt
  have hps1 : w1.ownsRow base 69 1 (.slice (some ⟨gP, 0, none⟩) N capP) N (Pl.map fun x => .int .u16 (x : Nat)) := by
    have h0 := (show OwnV 69 base w (.slice (some ⟨gP, 0, none⟩) N capP) (Pl.map fun x => .int .u16 (x : Nat)) from hC.ps).keep (w' := w1) (fun g e => by injection e with e; subst e; exact bP)
    unfold OwnV at h0
    rw [List.length_map, hPl] at h0
    exact h0
  have hst := (World.ownsRow.stored hps1 i (.int .u16 (Rc.next p bt : Nat))).1
  simp only [List.mem_cons, List.not_mem_nil, or_false, not_or] at houtB
  refine ⟨rfl, ⟨⟨Pl.set i (Rc.next p bt), vR, gR, gP, capP, ⟨?_, ?_, ?_⟩, hgR, ?_, by rw [List.length_set, hPl], fun j hj => ?_, rfl⟩, ?_, by simp only [List.mem_cons, List.not_mem_nil, or_false, not_or]; exact houtB, fun j => ?_⟩, ?_⟩
  · exact (heap_setCell_other _ _ _ _ n4).trans (bC.trans hC.box)
  · exact (hC.reps.keep (w' := w1) (fun g e => by rw [hgR] at e; injection e with e; subst e; exact bR)).setOther (by rw [hgR]; simpa using n5) _
  · show OwnV _ _ _ _ _
    unfold OwnV
    rw [List.length_map, List.length_set, hPl, List.map_set]
    exact hst
  · obtain ⟨x, z, h1, h2⟩ := HR1.out
    exact ⟨x, z, h1, h2.keep (by simp) (heap_setCell_other _ _ _ _ (fun e => n1 e.symm)) (heap_setCell_other _ _ _ _ houtB.2.2.1)⟩
  · by_cases e : j = i
    · subst e
      rw [List.getElem?_set_self (by omega)]
      simp [Md.put]
    · rw [List.getElem?_set_ne (fun h => e h.symm)]
      simp only [Md.put, if_neg e]
      exact hP j hj
  · exact (heap_setCell_other _ _ _ _ n7).trans (bB.trans hrb)
  · show 1 ≤ Md.put y.1 i _ j ∧ Md.put y.1 i _ j ≤ 2047
    unfold Md.put
    split
    · exact ⟨hfl, hfh⟩
    · exact hFA j
  · have h0 : Only [C, gR, gP, h] w w1 := ⟨hon.os, hon.tape, hon.output, hon.size, fun k hk hX => hon.block k hk (fun h2 => hX (by simp at h2; simp [h2]))⟩
    exact h0.setCell (p := ⟨gP, i, none⟩) (.inl (by simp)) _
end Go.Proofs.Ytdkimllfpiphgaa

/- The reference's Reader: trees. -/
namespace Go.Proofs.Ytdkimllfpiphgaa
open Go.RowKit

theorem Only.same {X : List Nat} {a b c : World} (h : Only X a b) (k : Only X b c) : Only X a c := h.trans k (fun _ hi => .inl hi)
theorem wrap64_in (q : Nat) (h : q < 4294967296) : wrap64 (q : Int) = (q : Int) := by unfold wrap64; omega
theorem bitI_toNat (b : Bool) : bitI b = ((b.toNat : Nat) : Int) := by cases b <;> rfl
theorem qbit_is {gd o cap R C base h b off cc N : Nat} {L : List UInt8} {lc lp pb st : Int} {r : R4} {y : PD} {Y : List Nat} {w : World} (hM : RD w R C base h b off cc N L lc lp pb st r y Y) (hok : (decIo gd o cap L).ok y.2 0) {i : Nat} (hi : i < N) (bb : Bool) {t : Bool × PD} (ht : (decIo gd o cap L).bitAt i bb y = t) :
    Calls Try.prog 37 #[PF R, .int .i64 (i : Nat)] w (QDone (.int .i64 ((t.1.toNat : Nat) : Int)) R C base h b off cc N L lc lp pb st r t.2 Y w) ∧ (decIo gd o cap L).ok t.2.2 0 := by
  subst ht
  have hq := qbit_any hM hok.1 hok.2 i hi
  rw [bitI_toNat] at hq
  exact ⟨hq, (decIo gd o cap L).okBit (n := 0) (b := bb) hok (hM.fair i).1 (hM.fair i).2⟩
theorem treeGo_step (io : Io) (at_ : Nat) (v : Int) (n m : Nat) (x : io.S) {t : Bool × io.S} (ht : io.bitAt (at_ + m) (Md.bitOf v n) x = t) : Md.treeGo io at_ v (n + 1) m x = Md.treeGo io at_ v n (2 * m + t.1.toNat) t.2 := by
  subst ht; rfl
theorem revGo_step (io : Io) (at_ : Nat) (v : Int) (n i m g : Nat) (x : io.S) {t : Bool × io.S} (ht : io.bitAt (at_ + m) (Md.bitOf v i) x = t) : Md.revGo io at_ v (n + 1) i m g x = Md.revGo io at_ v n (i + 1) (2 * m + t.1.toNat) (g + t.1.toNat * 2 ^ i) t.2 := by
  subst ht; rfl
set_option maxRecDepth 100000 in
set_option maxHeartbeats 1000000 in
theorem qtree_any {gd o cap R C base h b off cc N : Nat} {L : List UInt8} {lc lp pb st : Int} {r : R4} {y : PD} {Y : List Nat} {w : World} (hM : RD w R C base h b off cc N L lc lp pb st r y Y) (hok : (decIo gd o cap L).ok y.2 0) {n at_ : Nat} (hn : n ≤ 8) (hat : at_ + 2 ^ n ≤ N) (hN : N ≤ 1000000) (v : Int) {z : Nat × PD} (hz : Md.tree (decIo gd o cap L) at_ n v y = z) :
    Calls Try.prog 55 #[PF R, .int .i64 (at_ : Nat), .int .i64 (n : Nat)] w (MAnd ((decIo gd o cap L).ok z.2.2 0 ∧ z.1 < 2 ^ n) (QDone (.int .i64 (z.1 : Nat)) R C base h b off cc N L lc lp pb st r z.2 Y w)) := by
  obtain ⟨Q, hQ⟩ : ∃ Q, ((decIo gd o cap L).ok z.2.2 0 ∧ z.1 < 2 ^ n) = Q := ⟨_, rfl⟩
  rw [hQ]
  have HQ := Lib.hid hQ
  obtain ⟨⟨m1, z2⟩, hgo⟩ : ∃ t, Md.treeGo (decIo gd o cap L) at_ v n 1 y = t := ⟨_, rfl⟩
  have hz2 : z = (m1 - 2 ^ n, z2) := by rw [← hz]; unfold Md.tree; rw [hgo]
  have HZ := Lib.hid hz2
  have HGO := Lib.hid hgo
  have hni : (n : Int) ≤ 8 := by omega
  have HAT := Lib.hid hat
  have hati : (at_ : Int) ≤ 1000000 := by have := Nat.one_le_two_pow (n := n); omega
  have HMM := Lib.hid hM
  have HOK0 := Lib.hid hok
  have HTWO := Lib.hid (fun W => two_any n (by omega) W)
  have hp8 : 2 ^ n ≤ 2 ^ 8 := Nat.pow_le_pow_right (by omega) hn
  clear hQ hat hz hM hok hgo hz2
  go_enter Try.func55, Try.ntmps55
  go_wp2_with fail
  go_loopw [7, 8] (fun ms i wr => ∃ (j m : Nat) (y' : PD), j ≤ n ∧ ms = .int .i64 (m : Nat) ∧ i = .int .i64 ((n : Int) - (j : Int)) ∧ 2 ^ (n - j) ≤ m ∧ m < 2 ^ (n - j) * 2 ∧ Hid ((decIo gd o cap L).ok y'.2 0) ∧ Hid (Md.treeGo (decIo gd o cap L) at_ v j m y' = (m1, z2)) ∧ Hid (RD wr R C base h b off cc N L lc lp pb st r y' Y ∧ Only Y w wr)) (fun _ i _ => n - (intOf i).toNat)
  case atStart => exact ⟨n, 1, y, Nat.le_refl _, rfl, by go_num, by simp, by simp, HOK0, HGO, Lib.hid ⟨HMM.out, Only.refl _ _⟩⟩
  case round =>
    obtain ⟨j, m, y', hj, rfl, rfl, hm1, hm2, HOK, HT, HM⟩ := hrel
    cases j with
    | zero =>
      have hlt : ¬ (n : Int) - ((0 : Nat) : Int) < (n : Int) := by omega
      have hmm : m = m1 := congrArg (fun t => t.1) HT.out
      have hyz : y' = z2 := congrArg (fun t => t.2) HT.out
      subst hmm hyz
      rw [Nat.sub_zero] at hm1 hm2
      have HM1 := Lib.hid hm1
      have HM2 := Lib.hid hm2
      obtain ⟨PW, hPW⟩ : ∃ PW, 2 ^ n = PW := ⟨_, rfl⟩
      rw [hPW] at HTWO HM1 HM2 hp8 HQ HZ
      have hmi : (m : Int) < 512 := by have := HM2.out; omega
      have hpi : (PW : Int) ≤ 256 := by omega
      have hsub : (m : Int) - (PW : Int) = ((m - PW : Nat) : Int) := by have := HM1.out; omega
      clear hm1 hm2 hPW
      go_wp2_with fail
      refine (HTWO.out wr).mono ?_
      rintro e w1 ⟨rfl, rfl⟩
      go_wp2_with fail
      go_ret
      rw [HZ.out] at HQ ⊢
      refine ⟨⟨by first | rfl | rw [hsub], HM.out.1, HM.out.2⟩, ?_⟩
      rw [← HQ.out]
      exact ⟨HOK.out, by show m - PW < PW; have := HM2.out; have := HM1.out; omega⟩
    | succ j =>
      have hml : m < 2 ^ n := by
        have e : 2 ^ (n - (j + 1)) * 2 = 2 ^ (n - j) := by rw [← Nat.pow_succ]; congr 1; omega
        have : 2 ^ (n - j) ≤ 2 ^ n := Nat.pow_le_pow_right (by omega) (by omega)
        omega
      have hlt : (n : Int) - ((j + 1 : Nat) : Int) < (n : Int) := by omega
      obtain ⟨⟨tb, ty⟩, hy⟩ : ∃ t, (decIo gd o cap L).bitAt (at_ + m) (Md.bitOf v j) y' = t := ⟨_, rfl⟩
      obtain ⟨hb, okb⟩ := qbit_is HM.out.1 HOK.out (i := at_ + m) (by have := HAT.out; omega) (Md.bitOf v j) hy
      have HT2 : Hid (Md.treeGo (decIo gd o cap L) at_ v j (2 * m + tb.toNat) ty = (m1, z2)) := Lib.hid ((treeGo_step (decIo gd o cap L) at_ v j m y' hy).symm.trans HT.out)
      have hB1 : tb.toNat ≤ 1 := by cases tb <;> decide
      obtain ⟨B, hB⟩ : ∃ B, tb.toNat = B := ⟨_, rfl⟩
      simp only at hb okb
      rw [hB] at hb HT2 hB1
      have HBIT := Lib.hid hb
      have HOK2 := Lib.hid okb
      have HM1 := Lib.hid hm1
      have HM2 := Lib.hid hm2
      have hmi : (m : Int) < 256 := by omega
      have hBi : (B : Int) ≤ 1 := by omega
      obtain ⟨ai, hai⟩ : ∃ ai, at_ + m = ai := ⟨_, rfl⟩
      have haii : (at_ : Int) + (m : Int) = (ai : Int) := by omega
      rw [hai] at HBIT
      clear hb okb hm1 hm2 hy hB hai hml
      go_wp2_with fail
      refine HBIT.out.mono ?_
      rintro e w2 ⟨rfl, hM2, hon2⟩
      have HW := Lib.hid (And.intro hM2 (HM.out.2.same hon2))
      clear hM2 hon2
      go_wp2_with fail
      have e2 : 2 ^ (n - j) = 2 ^ (n - (j + 1)) * 2 := by rw [← Nat.pow_succ]; congr 1; omega
      exact ⟨⟨j, 2 * m + B, ty, by omega, by go_num, by go_num, by have := HM1.out; omega, by have := HM2.out; omega, HOK2, HT2, HW⟩, by simp [intOf]; omega⟩
set_option maxRecDepth 100000 in
set_option maxHeartbeats 1000000 in
theorem qturned_any {gd o cap R C base h b off cc N : Nat} {L : List UInt8} {lc lp pb st : Int} {r : R4} {y : PD} {Y : List Nat} {w : World} (hM : RD w R C base h b off cc N L lc lp pb st r y Y) (hok : (decIo gd o cap L).ok y.2 0) {n at_ : Nat} (hn : n ≤ 8) (hat : at_ + 2 ^ n ≤ N) (hN : N ≤ 1000000) (v : Int) {z : Nat × PD} (hz : Md.rev (decIo gd o cap L) at_ n v y = z) :
    Calls Try.prog 58 #[PF R, .int .i64 (at_ : Nat), .int .i64 (n : Nat)] w (MAnd ((decIo gd o cap L).ok z.2.2 0 ∧ z.1 < 2 ^ n) (QDone (.int .i64 (z.1 : Nat)) R C base h b off cc N L lc lp pb st r z.2 Y w)) := by
  obtain ⟨Q, hQ⟩ : ∃ Q, ((decIo gd o cap L).ok z.2.2 0 ∧ z.1 < 2 ^ n) = Q := ⟨_, rfl⟩
  rw [hQ]
  have HQ := Lib.hid hQ
  have HGO : Hid (Md.revGo (decIo gd o cap L) at_ v n 0 1 0 y = z) := Lib.hid hz
  have hni : (n : Int) ≤ 8 := by omega
  have HAT := Lib.hid hat
  have hati : (at_ : Int) ≤ 1000000 := by have := Nat.one_le_two_pow (n := n); omega
  have HMM := Lib.hid hM
  have HOK0 := Lib.hid hok
  have hp8 : 2 ^ n ≤ 2 ^ 8 := Nat.pow_le_pow_right (by omega) hn
  clear hQ hat hz hM hok
  go_enter Try.func58, Try.ntmps58
  go_wp2_with fail
  go_loopw [7, 8, 9] (fun ms vs i wr => ∃ (ix m q : Nat) (y' : PD), ix ≤ n ∧ ms = .int .i64 (m : Nat) ∧ vs = .int .i64 (q : Nat) ∧ i = .int .i64 (ix : Nat) ∧ 2 ^ ix ≤ m ∧ m < 2 ^ ix * 2 ∧ q < 2 ^ ix ∧ Hid ((decIo gd o cap L).ok y'.2 0) ∧ Hid (Md.revGo (decIo gd o cap L) at_ v (n - ix) ix m q y' = z) ∧ Hid (RD wr R C base h b off cc N L lc lp pb st r y' Y ∧ Only Y w wr)) (fun _ _ i _ => n - (intOf i).toNat)
  case atStart => exact ⟨0, 1, 0, y, Nat.zero_le _, rfl, rfl, rfl, by simp, by simp, by simp, HOK0, HGO, Lib.hid ⟨HMM.out, Only.refl _ _⟩⟩
  case round =>
    obtain ⟨ix, m, q, y', hj, rfl, rfl, rfl, hm1, hm2, hq, HOK, HT, HM⟩ := hrel
    by_cases hlt : ix < n
    · obtain ⟨j, hj'⟩ : ∃ j, n - ix = j + 1 := ⟨n - ix - 1, by omega⟩
      have hT0 := HT.out
      rw [hj'] at hT0
      have hlti : (ix : Int) < (n : Int) := by omega
      have e2 : 2 ^ (ix + 1) = 2 ^ ix * 2 := Nat.pow_succ ..
      have hpl : 2 ^ (ix + 1) ≤ 2 ^ n := Nat.pow_le_pow_right (by omega) (by omega)
      have hml : m < 2 ^ n := by omega
      obtain ⟨⟨tb, ty⟩, hy⟩ : ∃ t, (decIo gd o cap L).bitAt (at_ + m) (Md.bitOf v ix) y' = t := ⟨_, rfl⟩
      obtain ⟨hb, okb⟩ := qbit_is HM.out.1 HOK.out (i := at_ + m) (by have := HAT.out; omega) (Md.bitOf v ix) hy
      have HTWO := Lib.hid (fun W => two_any ix (by omega) W)
      have hT2 := (revGo_step (decIo gd o cap L) at_ v j ix m q y' hy).symm.trans hT0
      rw [show j = n - (ix + 1) by omega] at hT2
      have hB1 : tb.toNat ≤ 1 := by cases tb <;> decide
      obtain ⟨B, hB⟩ : ∃ B, tb.toNat = B := ⟨_, rfl⟩
      simp only at hb okb hT2
      rw [hB] at hb hT2 hB1
      have HBIT := Lib.hid hb
      have HOK2 := Lib.hid okb
      obtain ⟨PW, hPW⟩ : ∃ PW, 2 ^ ix = PW := ⟨_, rfl⟩
      rw [hPW] at HTWO hT2 hm1 hm2 hq e2
      have hPi : (PW : Int) ≤ 256 := by omega
      have hmi : (m : Int) < 256 := by omega
      have hqi : (q : Int) < 256 := by omega
      have hBi : (B : Int) ≤ 1 := by omega
      have hBP : (B : Int) * (PW : Int) = ((B * PW : Nat) : Int) := by rw [Int.natCast_mul]
      have hBPl : B * PW ≤ PW := by
        have h0 : B = 0 ∨ B = 1 := by omega
        rcases h0 with rfl | rfl <;> omega
      obtain ⟨BP, hBPe⟩ : ∃ BP, B * PW = BP := ⟨_, rfl⟩
      rw [hBPe] at hBP hBPl hT2
      have HT2 := Lib.hid hT2
      have hBPi : (BP : Int) ≤ 256 := by omega
      obtain ⟨ai, hai⟩ : ∃ ai, at_ + m = ai := ⟨_, rfl⟩
      have haii : (at_ : Int) + (m : Int) = (ai : Int) := by omega
      rw [hai] at HBIT
      have HE2 := Lib.hid e2
      have HM1 := Lib.hid hm1
      have HM2 := Lib.hid hm2
      have HQ1 := Lib.hid hq
      have HBPL := Lib.hid hBPl
      clear hb okb hm1 hm2 hy hB hai hml hPW hBPe hq hBPl e2 hpl hT2 hT0 hj'
      go_wp2_with fail
      refine HBIT.out.mono ?_
      rintro e w2 ⟨rfl, hM2, hon2⟩
      have HW := Lib.hid (And.intro hM2 (HM.out.2.same hon2))
      clear hM2 hon2
      go_wp2_with fail
      refine (HTWO.out w2).mono ?_
      rintro e w3 ⟨rfl, rfl⟩
      go_wp2_with fail
      exact ⟨⟨ix + 1, 2 * m + B, q + BP, ty, by omega, by go_num, by go_num, by go_num, by have := HM1.out; have := HE2.out; omega, by have := HM2.out; have := HE2.out; omega, by have := HQ1.out; have := HE2.out; have := HBPL.out; omega, HOK2, HT2, HW⟩, by simp [intOf]; omega⟩
    · obtain rfl : ix = n := by omega
      have hlti : ¬ (ix : Int) < (ix : Int) := by omega
      have hT0 := HT.out
      rw [Nat.sub_self] at hT0
      have hqq : q = z.1 := congrArg (fun t => t.1) hT0
      have hyz : y' = z.2 := congrArg (fun t => t.2) hT0
      have HQL := Lib.hid hq
      have HQQ := Lib.hid hqq
      have HYZ := Lib.hid hyz
      clear hm1 hm2 hq hqq hyz hT0
      go_wp2_with fail
      go_ret
      have hm := HM.out
      have ho := HOK.out
      rw [HYZ.out] at hm ho
      refine ⟨⟨by rw [← HQQ.out]; rfl, hm.1, hm.2⟩, ?_⟩
      rw [← HQ.out]
      exact ⟨ho, by rw [← HQQ.out]; exact HQL.out⟩
end Go.Proofs.Ytdkimllfpiphgaa

/- The numbers of the reference's chances, for its Reader. -/
namespace Go.Proofs.Ytdkimllfpiphgaa
open Go.RowKit

section
variable {R C base h b off cc N : Nat} {L : List UInt8} {lc lp pb st : Nat} {r : R4} {y : PD} {Y : List Nat} {w : World}
theorem RD.heads (hM : RD w R C base h b off cc N L (lc : Nat) (lp : Nat) (pb : Nat) (st : Nat) r y Y) : w.cell? ⟨C, 0, none⟩ = some (.int .i64 (lc : Nat)) ∧ w.cell? ⟨C, 1, none⟩ = some (.int .i64 (lp : Nat)) ∧ w.cell? ⟨C, 2, none⟩ = some (.int .i64 (pb : Nat)) ∧ w.cell? ⟨C, 3, none⟩ = some (.int .i64 (st : Nat)) := by
  obtain ⟨Pl, vR, gR, gP, capP, hC, _⟩ := hM.ex
  refine ⟨?_, ?_, ?_, ?_⟩ <;> (rw [cell_of_row w _ _ _ _ _ hC.box]; rfl)
theorem rmatch_any (hM : RD w R C base h b off cc N L (lc : Nat) (lp : Nat) (pb : Nat) (st : Nat) r y Y) (hst : st < 12) (p : Nat) (hp : p < 16) : Calls Try.prog 38 #[PF C, .int .i64 (p : Nat)] w fun e w' => e = .returned (.int .i64 ((16 * st + p : Nat) : Int)) ∧ w = w' := by
  obtain ⟨_, _, _, c3⟩ := hM.heads
  have hsti : (st : Int) < 12 := by omega
  have hpi : (p : Int) < 16 := by omega
  clear hM
  go_enter Try.func38, Try.ntmps38
  go_wp2_with fail
  go_ret
  exact ⟨by go_num, rfl⟩
theorem rrep_any (hM : RD w R C base h b off cc N L (lc : Nat) (lp : Nat) (pb : Nat) (st : Nat) r y Y) (hst : st < 12) : Calls Try.prog 40 #[PF C] w fun e w' => e = .returned (.int .i64 ((192 + st : Nat) : Int)) ∧ w = w' := by
  obtain ⟨_, _, _, c3⟩ := hM.heads
  have hsti : (st : Int) < 12 := by omega
  clear hM
  go_enter Try.func40, Try.ntmps40
  go_wp2_with fail
  go_ret
  exact ⟨by go_num, rfl⟩
theorem rwhich_any (hM : RD w R C base h b off cc N L (lc : Nat) (lp : Nat) (pb : Nat) (st : Nat) r y Y) (hst : st < 12) (n : Nat) (hn : n ≤ 2) : Calls Try.prog 62 #[PF C, .int .i64 (n : Nat)] w fun e w' => e = .returned (.int .i64 ((204 + 12 * n + st : Nat) : Int)) ∧ w = w' := by
  obtain ⟨_, _, _, c3⟩ := hM.heads
  have hsti : (st : Int) < 12 := by omega
  have hni : (n : Int) ≤ 2 := by omega
  clear hM
  go_enter Try.func62, Try.ntmps62
  go_wp2_with fail
  go_ret
  exact ⟨by go_num, rfl⟩
theorem rlong_any (hM : RD w R C base h b off cc N L (lc : Nat) (lp : Nat) (pb : Nat) (st : Nat) r y Y) (hst : st < 12) (p : Nat) (hp : p < 16) : Calls Try.prog 45 #[PF C, .int .i64 (p : Nat)] w fun e w' => e = .returned (.int .i64 ((240 + 16 * st + p : Nat) : Int)) ∧ w = w' := by
  obtain ⟨_, _, _, c3⟩ := hM.heads
  have hsti : (st : Int) < 12 := by omega
  have hpi : (p : Int) < 16 := by omega
  clear hM
  go_enter Try.func45, Try.ntmps45
  go_wp2_with fail
  go_ret
  exact ⟨by go_num, rfl⟩
theorem rlengths_yes (w : World) : Calls Try.prog 42 #[.bool true] w fun e w' => e = .returned (.int .i64 946) ∧ w = w' := by
  go_enter Try.func42, Try.ntmps42
  go_wp2_with fail
  go_ret
  exact ⟨rfl, rfl⟩
theorem rlengths_no (w : World) : Calls Try.prog 42 #[.bool false] w fun e w' => e = .returned (.int .i64 432) ∧ w = w' := by
  go_enter Try.func42, Try.ntmps42
  go_wp2_with fail
  go_ret
  exact ⟨rfl, rfl⟩
theorem rslots_any (l : Nat) (h2 : 2 ≤ l) (h3 : l ≤ 300) (w : World) : Calls Try.prog 57 #[.int .i64 (l : Nat)] w fun e w' => e = .returned (.int .i64 ((1460 + 64 * min (l - 2) 3 : Nat) : Int)) ∧ w = w' := by
  have hli : (l : Int) ≤ 300 := by omega
  have hl2 : (2 : Int) ≤ (l : Int) := by omega
  by_cases hk : 3 < (l : Int) - 2
  · have hK : Hid (min (l - 2) 3 = 3) := Lib.hid (by omega)
    rw [hK.out]
    go_enter Try.func57, Try.ntmps57
    go_wp2_with fail
    go_ret
    exact ⟨rfl, rfl⟩
  · obtain ⟨K, hK⟩ : ∃ K, min (l - 2) 3 = K := ⟨_, rfl⟩
    have hKi : (l : Int) - 2 = (K : Int) := by omega
    have hK3 : (K : Int) ≤ 3 := by omega
    rw [hK]
    clear hK hk
    have hk : ¬ (3 : Int) < (K : Int) := by omega
    go_enter Try.func57, Try.ntmps57
    go_wp2_with fail
    go_ret
    exact ⟨by go_num, rfl⟩
theorem rlow_any (s : Nat) (hs : s < 64) (w : World) : Calls Try.prog 59 #[.int .i64 (s : Nat)] w fun e w' => e = .returned (.int .i64 ((1716 + 32 * s : Nat) : Int)) ∧ w = w' := by
  have hsi : (s : Int) < 64 := by omega
  go_enter Try.func59, Try.ntmps59
  go_wp2_with fail
  go_ret
  exact ⟨by go_num, rfl⟩
theorem ralign_any (w : World) : Calls Try.prog 61 #[] w fun e w' => e = .returned (.int .i64 2164) ∧ w = w' := by
  go_enter Try.func61, Try.ntmps61
  go_wp2_with fail
  go_ret
  exact ⟨rfl, rfl⟩
theorem back_any (A : Option Addr) (H : List UInt8) (c : Nat) (a : Int) (w : World) (hB : Bytes w A H) (hc : H.length ≤ c) (hH : H.length ≤ 1000000000) (h1 : 1 ≤ a) (h2 : a ≤ 4294967296) : Calls Try.prog 56 #[.slice A H.length c, .int .i64 a] w fun e w' => e = .returned (.int .i64 (Md.likeN H a : Nat)) ∧ w = w' := by
  obtain ⟨LK, hLK⟩ : ∃ LK, Md.likeN H a = LK := ⟨_, rfl⟩
  rw [hLK]
  have hci : (H.length : Int) ≤ (c : Int) := by omega
  have hHi : (H.length : Int) ≤ 1000000000 := by omega
  unfold Md.likeN at hLK
  by_cases hb : a ≤ (H.length : Int)
  · rw [if_pos hb] at hLK
    obtain ⟨z, hz⟩ : ∃ z : Nat, (H.length : Int) - a = (z : Int) := ⟨((H.length : Int) - a).toNat, by omega⟩
    have hzl : (z : Int) < (H.length : Int) := by omega
    have hnb : ¬ (H.length : Int) < a := by omega
    obtain ⟨bb, off, rfl, _, hat⟩ := hB.addr (by omega)
    have cx := hat z (by omega)
    rw [← getD_of] at cx
    rw [show H.length - a.toNat = z by omega] at hLK
    generalize H.getD z 0 = u at *
    have HLK := Lib.hid hLK
    clear hat hLK hB
    go_enter Try.func56, Try.ntmps56
    go_wp2_with fail
    go_ret
    refine ⟨congrArg (fun n : Int => Ending.returned (Value.int .i64 n)) ?_, rfl⟩
    rw [← HLK.out]
    exact wrap64_of (by omega) (by have := u.toNat_lt; omega)
  · rw [if_neg hb] at hLK
    subst hLK
    have hnb : (H.length : Int) < a := by omega
    clear hB
    go_enter Try.func56, Try.ntmps56
    go_wp2_with fail
    go_ret
    exact ⟨rfl, rfl⟩
end
set_option maxRecDepth 100000 in
set_option maxHeartbeats 1000000 in
theorem rtable_any {R C base h b off cc N lc lp pb st : Nat} {L : List UInt8} {r : R4} {y : PD} {Y : List Nat} {w : World} (hM : RD w R C base h b off cc N L (lc : Nat) (lp : Nat) (pb : Nat) (st : Nat) r y Y) (hlc : lc ≤ 4) (hlp : lp ≤ 4) (A : Option Addr) (H : List UInt8) (c : Nat) (hB : Bytes w A H) (hc : H.length ≤ c) (hH : H.length ≤ 1000000000) :
    Calls Try.prog 54 #[PF C, .slice A H.length c] w (Tells (.int .i64 ((2180 + 768 * ctxN lc lp H : Nat) : Int)) w) := by
  obtain ⟨c0, c1, _, _⟩ := hM.heads
  have hHi : (H.length : Int) ≤ 1000000000 := by omega
  have HT1 := Lib.hid (two_any lp (by omega) w)
  have HQ1 := Lib.hid (fun (n : Nat) => show Calls Try.prog 29 #[.int .i64 (lc : Nat)] (w.drewN n) fun e w'' => e = .returned (.int .i64 (2 ^ lc : Nat)) ∧ ∃ m, w'' = w.drewN m from (two_any lc (by omega) (w.drewN n)).mono fun e w' h => ⟨h.1, n, h.2.symm⟩)
  have HQ2 := Lib.hid (fun (n : Nat) => show Calls Try.prog 29 #[.int .i64 ((8 - lc : Nat) : Int)] (w.drewN n) fun e w'' => e = .returned (.int .i64 (2 ^ (8 - lc) : Nat)) ∧ ∃ m, w'' = w.drewN m from (two_any (8 - lc) (by omega) (w.drewN n)).mono fun e w' h => ⟨h.1, n, h.2.symm⟩)
  have HQ3 := Lib.hid (fun (n : Nat) => show Calls Try.prog 56 #[.slice A H.length c, .int .i64 1] (w.drewN n) fun e w'' => e = .returned (.int .i64 (Md.likeN H 1 : Nat)) ∧ ∃ m, w'' = w.drewN m from (back_any A H c 1 (w.drewN n) (hB.drewN n) hc hH (by omega) (by omega)).mono fun e w' h => ⟨h.1, n, h.2.symm⟩)
  have hwr : IntKind.i64.wrap (8 - (lc : Int)) = ((8 - lc : Nat) : Int) := by rw [IntKind.wrap_i64]; omega
  have hlk : Md.likeN H 1 < 256 := Md.likeN_lt H 1
  have hctx : ctxN lc lp H = H.length % 2 ^ lp * 2 ^ lc + Md.likeN H 1 / 2 ^ (8 - lc) := by
    unfold ctxN Md.likeN
    by_cases h0 : 0 < H.length
    · rw [if_pos h0, if_pos (by omega)]; rfl
    · rw [if_neg h0, if_neg (by omega)]
  have hck := ctxN_lt (lp := lp) H (show lc ≤ 8 by omega)
  obtain ⟨K, hK⟩ : ∃ K, ctxN lc lp H = K := ⟨_, rfl⟩
  rw [hK] at hctx hck ⊢
  obtain ⟨LK, hLK⟩ : ∃ LK, Md.likeN H 1 = LK := ⟨_, rfl⟩
  rw [hLK] at hctx hlk HQ3
  have h1 : 1 ≤ 2 ^ lp := Nat.one_le_two_pow
  have h2 : 2 ^ lp ≤ 2 ^ 4 := Nat.pow_le_pow_right (by omega) hlp
  have h3 : 2 ^ lc ≤ 2 ^ 4 := Nat.pow_le_pow_right (by omega) hlc
  have h4 : 1 ≤ 2 ^ lc := Nat.one_le_two_pow
  have h5 : 1 ≤ 2 ^ (8 - lc) := Nat.one_le_two_pow
  have h6 : 2 ^ (8 - lc) ≤ 2 ^ 8 := Nat.pow_le_pow_right (by omega) (by omega)
  have h7 : 2 ^ (lc + lp) ≤ 2 ^ 8 := Nat.pow_le_pow_right (by omega) (by omega)
  obtain ⟨P1, hP1⟩ : ∃ P, 2 ^ lp = P := ⟨_, rfl⟩
  obtain ⟨P2, hP2⟩ : ∃ P, 2 ^ lc = P := ⟨_, rfl⟩
  obtain ⟨P3, hP3⟩ : ∃ P, 2 ^ (8 - lc) = P := ⟨_, rfl⟩
  rw [hP1] at HT1 hctx h1 h2
  rw [hP2] at HQ1 hctx h3 h4
  rw [hP3] at HQ2 hctx h5 h6
  obtain ⟨A1, hA1⟩ : ∃ A1, H.length % P1 = A1 := ⟨_, rfl⟩
  have hA1l : A1 < P1 := by rw [← hA1]; exact Nat.mod_lt _ h1
  have htm : ((H.length : Nat) : Int).tmod ((P1 : Nat) : Int) = (A1 : Int) := by rw [Int.tmod_eq_emod_of_nonneg (by omega), ← hA1]; omega
  have hp1 : ((P1 : Nat) : Int) ≠ 0 := by omega
  have hp3 : ((P3 : Nat) : Int) ≠ 0 := by omega
  rw [hA1] at hctx
  have hK256 : K < 256 := by omega
  have HC := Lib.hid (And.intro hctx (And.intro hlk (And.intro hK256 (And.intro hA1l (And.intro h2 (And.intro h3 h5))))))
  clear hM hB hctx hlk hck hK hLK h1 h2 h3 h4 h5 h6 h7 hP1 hP2 hP3 hA1 hA1l hK256
  go_enter Try.func54, Try.ntmps54
  go_wp2_with fail
  refine HT1.out.mono ?_
  rintro e w1 ⟨rfl, rfl⟩
  go_upto_region 2 with fail
  go_quiet (first | with_reducible exact HQ1.out _ | with_reducible exact HQ2.out _ | with_reducible exact HQ3.out _)
  go_wp2_with fail
  go_ret
  refine ⟨?_, below_drewN (Below.refl _ _) _⟩
  refine congrArg (fun n : Int => Ending.returned (Value.int .i64 n)) ?_
  obtain ⟨g1, g2, g3, g4, g5, g6, g7⟩ := HC.out
  have e1 : (A1 : Int) * (P2 : Int) = ((A1 * P2 : Nat) : Int) := by simp
  have e2 : (LK : Int) / (P3 : Int) = ((LK / P3 : Nat) : Int) := by simp
  have h1 : A1 * P2 ≤ 16 * 16 := Nat.mul_le_mul (by omega) (by omega)
  have h2 : LK / P3 ≤ LK := Nat.div_le_self _ _
  rw [e1, e2, wrap64_in _ (by omega : A1 * P2 < 4294967296), wrap64_in _ (by omega : LK / P3 < 4294967296)]
  rw [show ((A1 * P2 : Nat) : Int) + ((LK / P3 : Nat) : Int) = (K : Int) by omega, wrap64_in _ (by omega : K < 4294967296)]
  rw [show (768 : Int) * (K : Int) = ((768 * K : Nat) : Int) by omega, wrap64_in _ (by omega)]
  rw [show (2180 : Int) + ((768 * K : Nat) : Int) = ((2180 + 768 * K : Nat) : Int) by omega, wrap64_in _ (by omega)]
end Go.Proofs.Ytdkimllfpiphgaa

/- The reference's Reader: lengths, and which repeat. -/
namespace Go.Proofs.Ytdkimllfpiphgaa
open Go.RowKit

set_option maxRecDepth 100000 in
set_option maxHeartbeats 2000000 in
theorem qlength_any {gd o cap R C base h b off cc N : Nat} {L : List UInt8} {lc lp pb st : Int} {r : R4} {y : PD} {Y : List Nat} {w : World} (hM : RD w R C base h b off cc N L lc lp pb st r y Y) (hok : (decIo gd o cap L).ok y.2 0) {A p : Nat} (hA : A = 432 ∨ A = 946) (hp : p < 16) (hN1 : 2180 ≤ N) (hN : N ≤ 1000000) (l : Int) {z : Nat × PD} (hz : Md.len (decIo gd o cap L) A p l y = z) :
    Calls Try.prog 41 #[PF R, .int .i64 (A : Nat), .int .i64 (p : Nat)] w (MAnd ((decIo gd o cap L).ok z.2.2 0 ∧ 2 ≤ z.1 ∧ z.1 ≤ 273) (QDone (.int .i64 (z.1 : Nat)) R C base h b off cc N L lc lp pb st r z.2 Y w)) := by
  obtain ⟨Q, hQ⟩ : ∃ Q, ((decIo gd o cap L).ok z.2.2 0 ∧ 2 ≤ z.1 ∧ z.1 ≤ 273) = Q := ⟨_, rfl⟩
  rw [hQ]
  have HQ := Lib.hid hQ
  have HA := Lib.hid hA
  have hAi : (A : Int) ≤ 946 := by omega
  have hpi : (p : Int) < 16 := by omega
  unfold Md.len at hz
  obtain ⟨⟨b1, y1⟩, hy⟩ : ∃ q, (decIo gd o cap L).bitAt A (decide (8 ≤ l - 2)) y = q := ⟨_, rfl⟩
  obtain ⟨h1, ok1⟩ := qbit_is hM hok (i := A) (by omega) _ hy
  simp only [hy] at hz
  simp only at h1 ok1
  have HB1 := Lib.hid h1
  have HOK1 := Lib.hid ok1
  clear hQ hM hok hy h1 ok1
  cases b1 with
  | false =>
    simp only [if_true] at hz
    obtain ⟨⟨t, y2⟩, ht⟩ : ∃ q, Md.tree (decIo gd o cap L) (A + 2 + 8 * p) 3 (l - 2) y1 = q := ⟨_, rfl⟩
    rw [ht] at hz
    have HZ := Lib.hid hz
    have HT := Lib.hid ht
    obtain ⟨ai, hai⟩ : ∃ ai, A + 2 + 8 * p = ai := ⟨_, rfl⟩
    have haii : (A : Int) + 2 + 8 * (p : Int) = (ai : Int) := by omega
    have hax := Lib.hid hai
    have hab : ai + 2 ^ 3 ≤ N := by rw [← hai]; have := HA.out; simp; omega
    rw [hai] at HT
    have HAB := Lib.hid hab
    clear hz ht hai hA hab
    simp only [Bool.toNat_false] at HB1
    go_enter Try.func41, Try.ntmps41
    go_wp2_with fail
    refine HB1.out.mono ?_
    rintro e w1 ⟨rfl, hM1, hon1⟩
    have HTR := Lib.hid (qtree_any hM1 HOK1.out (n := 3) (by omega) (at_ := ai) HAB.out hN (l - 2) HT.out)
    have HO1 := Lib.hid hon1
    clear hM1 hon1
    go_wp2_with fail
    refine HTR.out.mono ?_
    rintro e w2 ⟨⟨rfl, hM2, hon2⟩, ok2, hlt⟩
    have hlti : (t : Int) < 8 := by simp at hlt; omega
    have HM2 := Lib.hid hM2
    have HO2 := Lib.hid (HO1.out.same hon2)
    have HOK2 := Lib.hid ok2
    clear hM2 hon2 ok2 hlt
    go_wp2_with fail
    go_ret
    rw [← HQ.out, ← HZ.out]
    exact ⟨⟨by first | rfl | exact congrArg (fun n : Int => Ending.returned (Value.int .i64 n)) (by go_num), HM2.out, HO2.out⟩, HOK2.out, by show 2 ≤ 2 + t; omega, by show 2 + t ≤ 273; omega⟩
  | true =>
    simp only [Bool.true_eq_false, if_false] at hz
    obtain ⟨⟨b2, y2⟩, hy⟩ : ∃ q, (decIo gd o cap L).bitAt (A + 1) (decide (16 ≤ l - 2)) y1 = q := ⟨_, rfl⟩
    simp only [hy] at hz
    have HY := Lib.hid hy
    obtain ⟨a1, ha1⟩ : ∃ a1, A + 1 = a1 := ⟨_, rfl⟩
    have ha1i : (A : Int) + 1 = (a1 : Int) := by omega
    have HA1 := Lib.hid (show a1 < N by omega)
    rw [ha1] at HY
    simp only [Bool.toNat_true] at HB1
    clear hy ha1 hA
    cases b2 with
    | false =>
      simp only [if_true] at hz
      obtain ⟨⟨t, y3⟩, ht⟩ : ∃ q, Md.tree (decIo gd o cap L) (A + 130 + 8 * p) 3 (l - 2 - 8) y2 = q := ⟨_, rfl⟩
      rw [ht] at hz
      have HZ := Lib.hid hz
      have HT := Lib.hid ht
      obtain ⟨ai, hai⟩ : ∃ ai, A + 130 + 8 * p = ai := ⟨_, rfl⟩
      have haii : (A : Int) + 130 + 8 * (p : Int) = (ai : Int) := by omega
      have hab : ai + 2 ^ 3 ≤ N := by rw [← hai]; have := HA.out; simp; omega
      rw [hai] at HT
      have HAB := Lib.hid hab
      clear hz ht hai hab
      go_enter Try.func41, Try.ntmps41
      go_wp2_with fail
      refine HB1.out.mono ?_
      rintro e w1 ⟨rfl, hM1, hon1⟩
      obtain ⟨h2, ok2⟩ := qbit_is hM1 HOK1.out (i := a1) HA1.out _ HY.out
      simp only [Bool.toNat_false] at h2 ok2
      have HB2 := Lib.hid h2
      have HOK2 := Lib.hid ok2
      have HO1 := Lib.hid hon1
      clear hM1 hon1 h2 ok2
      go_wp2_with fail
      refine HB2.out.mono ?_
      rintro e w2 ⟨rfl, hM2, hon2⟩
      have HTR := Lib.hid (qtree_any hM2 HOK2.out (n := 3) (by omega) (at_ := ai) HAB.out hN (l - 2 - 8) HT.out)
      have HO2 := Lib.hid (HO1.out.same hon2)
      clear hM2 hon2
      go_wp2_with fail
      refine HTR.out.mono ?_
      rintro e w3 ⟨⟨rfl, hM3, hon3⟩, ok3, hlt⟩
      have hlti : (t : Int) < 8 := by simp at hlt; omega
      have HM3 := Lib.hid hM3
      have HO3 := Lib.hid (HO2.out.same hon3)
      have HOK3 := Lib.hid ok3
      clear hM3 hon3 ok3 hlt
      go_wp2_with fail
      go_ret
      rw [← HQ.out, ← HZ.out]
      exact ⟨⟨by first | rfl | exact congrArg (fun n : Int => Ending.returned (Value.int .i64 n)) (by go_num), HM3.out, HO3.out⟩, HOK3.out, by show 2 ≤ 10 + t; omega, by show 10 + t ≤ 273; omega⟩
    | true =>
      simp only [Bool.true_eq_false, if_false] at hz
      obtain ⟨⟨t, y3⟩, ht⟩ : ∃ q, Md.tree (decIo gd o cap L) (A + 258) 8 (l - 2 - 16) y2 = q := ⟨_, rfl⟩
      rw [ht] at hz
      have HZ := Lib.hid hz
      have HT := Lib.hid ht
      obtain ⟨ai, hai⟩ : ∃ ai, A + 258 = ai := ⟨_, rfl⟩
      have haii : (A : Int) + 258 = (ai : Int) := by omega
      have hab : ai + 2 ^ 8 ≤ N := by rw [← hai]; have := HA.out; simp; omega
      rw [hai] at HT
      have HAB := Lib.hid hab
      clear hz ht hai hab
      go_enter Try.func41, Try.ntmps41
      go_wp2_with fail
      refine HB1.out.mono ?_
      rintro e w1 ⟨rfl, hM1, hon1⟩
      obtain ⟨h2, ok2⟩ := qbit_is hM1 HOK1.out (i := a1) HA1.out _ HY.out
      simp only [Bool.toNat_true] at h2 ok2
      have HB2 := Lib.hid h2
      have HOK2 := Lib.hid ok2
      have HO1 := Lib.hid hon1
      clear hM1 hon1 h2 ok2
      go_wp2_with fail
      refine HB2.out.mono ?_
      rintro e w2 ⟨rfl, hM2, hon2⟩
      have HTR := Lib.hid (qtree_any hM2 HOK2.out (n := 8) (by omega) (at_ := ai) HAB.out hN (l - 2 - 16) HT.out)
      have HO2 := Lib.hid (HO1.out.same hon2)
      clear hM2 hon2
      go_wp2_with fail
      refine HTR.out.mono ?_
      rintro e w3 ⟨⟨rfl, hM3, hon3⟩, ok3, hlt⟩
      have hlti : (t : Int) < 256 := by simp at hlt; omega
      have HM3 := Lib.hid hM3
      have HO3 := Lib.hid (HO2.out.same hon3)
      have HOK3 := Lib.hid ok3
      clear hM3 hon3 ok3 hlt
      go_wp2_with fail
      go_ret
      rw [← HQ.out, ← HZ.out]
      exact ⟨⟨by first | rfl | exact congrArg (fun n : Int => Ending.returned (Value.int .i64 n)) (by go_num), HM3.out, HO3.out⟩, HOK3.out, by show 2 ≤ 18 + t; omega, by show 18 + t ≤ 273; omega⟩
/-- Which repeat, bit after bit. -/
def whGo (io : Io) (st : Nat) (q : Int) : Nat → io.S → Nat × io.S
  | 0, x => (3, x)
  | k + 1, x => if (io.bitAt (204 + 12 * (2 - k) + st) (q != ((2 - k : Nat) : Int)) x).1 = false then (2 - k, (io.bitAt (204 + 12 * (2 - k) + st) (q != ((2 - k : Nat) : Int)) x).2) else whGo io st q k (io.bitAt (204 + 12 * (2 - k) + st) (q != ((2 - k : Nat) : Int)) x).2
theorem whGo_which (io : Io) (st : Nat) (q : Int) (x : io.S) : whGo io st q 3 x = Md.which io st q x := by
  unfold Md.which whGo
  have e0 : 204 + 12 * (2 - 2) + st = 204 + st := by omega
  have f0 : (q != ((2 - 2 : Nat) : Int)) = (q != 0) := rfl
  rw [e0, f0]
  by_cases h0 : (io.bitAt (204 + st) (q != 0) x).1 = false
  · rw [if_pos h0]; simp only [h0, if_true]
  · rw [if_neg h0]
    simp only [if_neg h0]
    generalize (io.bitAt (204 + st) (q != 0) x).2 = x1
    unfold whGo
    have e1 : 204 + 12 * (2 - 1) + st = 216 + st := by omega
    have f1 : (q != ((2 - 1 : Nat) : Int)) = (q != 1) := rfl
    rw [e1, f1]
    by_cases h1 : (io.bitAt (216 + st) (q != 1) x1).1 = false
    · rw [if_pos h1]; simp only [h1, if_true]
    · rw [if_neg h1]
      simp only [if_neg h1]
      generalize (io.bitAt (216 + st) (q != 1) x1).2 = x2
      unfold whGo whGo
      have e2 : 204 + 12 * (2 - 0) + st = 228 + st := by omega
      have f2 : (q != ((2 - 0 : Nat) : Int)) = (q != 2) := rfl
      rw [e2, f2]
      cases h2 : (io.bitAt (228 + st) (q != 2) x2).1 with
      | false => rw [if_pos rfl]; rfl
      | true => rw [if_neg (by decide)]; rfl
theorem whGo_step (io : Io) (st : Nat) (q : Int) (k : Nat) (x : io.S) {n : Nat} (hn : 2 - k = n) {t : Bool × io.S} (ht : io.bitAt (204 + 12 * n + st) (q != (n : Int)) x = t) : whGo io st q (k + 1) x = if t.1 = false then (n, t.2) else whGo io st q k t.2 := by
  subst ht
  subst hn
  rfl
set_option maxRecDepth 100000 in
set_option maxHeartbeats 2000000 in
theorem qrepeat_any {gd o cap R C base h b off cc N : Nat} {L : List UInt8} {lc lp pb st : Nat} {r : R4} {y : PD} {Y : List Nat} {w : World} (hM : RD w R C base h b off cc N L (lc : Nat) (lp : Nat) (pb : Nat) (st : Nat) r y Y) (hok : (decIo gd o cap L).ok y.2 0) (hst : st < 12) (hN1 : 2180 ≤ N) (hN : N ≤ 1000000) (q : Int) {z : Nat × PD} (hz : Md.which (decIo gd o cap L) st q y = z) :
    Calls Try.prog 44 #[PF R] w (MAnd ((decIo gd o cap L).ok z.2.2 0 ∧ z.1 ≤ 3) (QDone (.int .i64 (z.1 : Nat)) R C base h b off cc N L (lc : Nat) (lp : Nat) (pb : Nat) (st : Nat) r z.2 Y w)) := by
  obtain ⟨Q, hQ⟩ : ∃ Q, ((decIo gd o cap L).ok z.2.2 0 ∧ z.1 ≤ 3) = Q := ⟨_, rfl⟩
  rw [hQ]
  have HQ := Lib.hid hQ
  have HGO := Lib.hid ((whGo_which (decIo gd o cap L) st q y).trans hz)
  have HMM := Lib.hid hM
  have HOK0 := Lib.hid hok
  have HST := Lib.hid hst
  clear hQ hz hM hok hst
  go_enter Try.func44, Try.ntmps44
  go_wp2_with fail
  go_loopw [3] (fun v wr => ∃ (n k : Nat) (y' : PD), k + n = 3 ∧ v = .int .i64 (n : Nat) ∧ Hid ((decIo gd o cap L).ok y'.2 0) ∧ Hid (whGo (decIo gd o cap L) st q k y' = z) ∧ Hid (RD wr R C base h b off cc N L (lc : Nat) (lp : Nat) (pb : Nat) (st : Nat) r y' Y ∧ Only Y w wr)) (fun v _ => 3 - (intOf v).toNat)
  case atStart => exact ⟨0, 3, y, rfl, rfl, HOK0, HGO, Lib.hid ⟨HMM.out, Only.refl _ _⟩⟩
  case round =>
    obtain ⟨n, k, y', hk, rfl, HOK, HT, HM⟩ := hrel
    cases k with
    | zero =>
      have hn3 : decide ((n : Int) < 3) = false := decide_eq_false (by omega)
      have hnn : n = 3 := by omega
      have hyz : z = (3, y') := HT.out.symm
      have HYZ := Lib.hid hyz
      clear hyz
      go_wp2_with fail
      go_ret
      subst hnn
      rw [← HQ.out, HYZ.out]
      exact ⟨⟨rfl, HM.out.1, HM.out.2⟩, HOK.out, Nat.le_refl _⟩
    | succ k =>
      have hn3 : decide ((n : Int) < 3) = true := decide_eq_true (by omega)
      have hni : (n : Int) < 3 := by omega
      have hr1 : wr.cell? ⟨R, 1, none⟩ = some (PF C) := by rw [cell_of_row wr _ _ _ _ _ HM.out.1.rbox]; rfl
      have HW := Lib.hid (rwhich_any HM.out.1 HST.out n (by omega))
      obtain ⟨ai, hai⟩ : ∃ ai, 204 + 12 * n + st = ai := ⟨_, rfl⟩
      rw [hai] at HW
      obtain ⟨⟨tb, ty⟩, hy⟩ : ∃ t, (decIo gd o cap L).bitAt ai (q != (n : Int)) y' = t := ⟨_, rfl⟩
      obtain ⟨hb, okb⟩ := qbit_is HM.out.1 HOK.out (i := ai) (by have := HST.out; omega) _ hy
      simp only at hb okb
      have hT2 := (whGo_step (decIo gd o cap L) st q k y' (n := n) (t := (tb, ty)) (by omega) (by rw [hai]; exact hy)).symm.trans HT.out
      simp only at hT2
      have HB := Lib.hid hb
      have HOK2 := Lib.hid okb
      have HK := Lib.hid hk
      clear hb okb hy hai hk
      cases tb with
      | false =>
        simp only [if_true] at hT2
        have HT2 := Lib.hid hT2
        simp only [Bool.toNat_false] at HB
        clear hT2
        go_wp2_with fail
        refine HW.out.mono ?_
        rintro e w1 ⟨rfl, rfl⟩
        go_wp2_with fail
        refine HB.out.mono ?_
        rintro e w1 ⟨rfl, hM1, hon1⟩
        have HM1 := Lib.hid (And.intro hM1 (HM.out.2.same hon1))
        clear hM1 hon1
        go_wp2_with fail
        go_ret
        rw [← HQ.out, ← HT2.out]
        exact ⟨⟨rfl, HM1.out.1, HM1.out.2⟩, HOK2.out, by show n ≤ 3; omega⟩
      | true =>
        simp only [Bool.true_eq_false, if_false] at hT2
        have HT2 := Lib.hid hT2
        simp only [Bool.toNat_true] at HB
        clear hT2
        go_wp2_with fail
        refine HW.out.mono ?_
        rintro e w1 ⟨rfl, rfl⟩
        go_wp2_with fail
        refine HB.out.mono ?_
        rintro e w1 ⟨rfl, hM1, hon1⟩
        have HM1 := Lib.hid (And.intro hM1 (HM.out.2.same hon1))
        clear hM1 hon1 hr1
        go_wp2_with fail
        exact ⟨⟨n + 1, k, ty, by have := HK.out; omega, by go_num, HOK2, HT2, HM1⟩, by simp [intOf]; omega⟩
end Go.Proofs.Ytdkimllfpiphgaa

/- The reference's Reader: distances. -/
namespace Go.Proofs.Ytdkimllfpiphgaa
open Go.RowKit

/-- The reader of bits alone has gone on. -/
theorem RD.decoder {R C base h b off cc N : Nat} {L : List UInt8} {lc lp pb st : Int} {r : R4} {y : PD} {Y : List Nat} {w : World} (hM : RD w R C base h b off cc N L lc lp pb st r y Y) : RDecIs w h b off cc L y.2 ∧ ∀ (s2 : Rd.St) (w' : World), RDecIs w' h b off cc L s2 → Only [h] w w' → RD w' R C base h b off cc N L lc lp pb st r (y.1, s2) Y ∧ Only Y w w' := by
  have hrb := hM.rbox
  have houtB := hM.outB
  have hFA := hM.fair
  obtain ⟨Pl, vR, gR, gP, capP, hC, hgR, hE, hPl, hP, rfl⟩ := hM.ex
  refine ⟨hE, fun s2 w' hD2 hon => ?_⟩
  obtain ⟨csP, hrP⟩ := hC.ps.row
  have hRr : ∃ cs, w.heap[gR]? = some (.cells cs 3 (0, 0)) := by
    obtain ⟨g, cap', e, _⟩ := hC.reps.some_of_pos (show 0 < 4 by decide)
    rw [e] at hgR
    injection hgR with hgR
    subst hgR
    have h0 := hC.reps
    rw [e] at h0
    exact h0.row
  obtain ⟨csR, hrR⟩ := hRr
  obtain ⟨xd, yd, _, hD⟩ := id hE
  have n1 : gP ≠ h := qrow_ne hrP hD.blk (by decide)
  have n2 : C ≠ h := qrow_ne hC.box hD.blk (by decide)
  have n3 : gR ≠ h := qrow_ne hrR hD.blk (by decide)
  have n6 : R ≠ h := qrow_ne hrb hD.blk (by decide)
  have bC := hon.block C (Array.getElem?_eq_some_iff.1 hC.box).1 (by simpa using n2)
  have bR := hon.block gR (Array.getElem?_eq_some_iff.1 hrR).1 (by simpa using n3)
  have bP := hon.block gP (Array.getElem?_eq_some_iff.1 hrP).1 (by simpa using n1)
  have bB := hon.block R (Array.getElem?_eq_some_iff.1 hrb).1 (by simpa using n6)
  refine ⟨⟨⟨Pl, vR, gR, gP, capP, ⟨bC.trans hC.box, ?_, ?_⟩, hgR, hD2, hPl, hP, rfl⟩, bB.trans hrb, houtB, hFA⟩, ?_⟩
  · exact hC.reps.keep (fun g e => by rw [hgR] at e; injection e with e; subst e; exact bR)
  · exact hC.ps.keep (fun g e => by injection e with e; subst e; exact bP)
  · exact ⟨hon.os, hon.tape, hon.output, hon.size, fun k hk hX => hon.block k hk (fun h2 => hX (by simp at h2; simp [h2]))⟩
theorem qplain_is {gd o cap R C base h b off cc N : Nat} {L : List UInt8} {lc lp pb st : Int} {r : R4} {y : PD} {Y : List Nat} {w : World} (hM : RD w R C base h b off cc N L lc lp pb st r y Y) (hok : (decIo gd o cap L).ok y.2 0) {m : Nat} (hm : m ≤ 32) (a : Nat) {t : Nat × Rd.St} (ht : (decIo gd o cap L).plain y.2 a m = t) :
    Calls Try.prog 60 #[PF h, .int .i64 (m : Nat)] w (QDone (.int .u32 (t.1 : Nat)) R C base h b off cc N L lc lp pb st r (y.1, t.2) Y w) ∧ (decIo gd o cap L).ok t.2 0 ∧ t.1 < 2 ^ m := by
  subst ht
  obtain ⟨hE, hgo⟩ := hM.decoder
  refine ⟨(rdplain_any h b off cc L y.2 m w hE hok.1 hok.2 hm).mono ?_, (decIo gd o cap L).okPlain (n := 0) hok hm, (decIo gd o cap L).plainLt (n := 0) (x := 0) hok (Nat.pow_pos (by decide))⟩
  rintro e w' ⟨rfl, hD, hon⟩
  exact ⟨rfl, hgo _ _ hD hon⟩
set_option maxRecDepth 100000 in
set_option maxHeartbeats 2000000 in
theorem qdistance_any {gd o cap R C base h b off cc N : Nat} {L : List UInt8} {lc lp pb st : Int} {r : R4} {y : PD} {Y : List Nat} {w : World} (hM : RD w R C base h b off cc N L lc lp pb st r y Y) (hok : (decIo gd o cap L).ok y.2 0) {l : Nat} (h2 : 2 ≤ l) (h3 : l ≤ 300) (hN1 : 2180 ≤ N) (hN : N ≤ 1000000) (dd : Int) {z : Nat × PD} (hz : Md.dist (decIo gd o cap L) l dd y = z) :
    Calls Try.prog 43 #[PF R, .int .i64 (l : Nat)] w (MAnd ((decIo gd o cap L).ok z.2.2 0 ∧ 1 ≤ z.1 ∧ z.1 ≤ 4294967296) (QDone (.int .i64 (z.1 : Nat)) R C base h b off cc N L lc lp pb st r z.2 Y w)) := by
  obtain ⟨Q, hQ⟩ : ∃ Q, ((decIo gd o cap L).ok z.2.2 0 ∧ 1 ≤ z.1 ∧ z.1 ≤ 4294967296) = Q := ⟨_, rfl⟩
  rw [hQ]
  have HQ := Lib.hid hQ
  obtain ⟨d, hd⟩ : ∃ d, ((dd - 1) % 4294967296).toNat = d := ⟨_, rfl⟩
  obtain ⟨SL, hSL⟩ : ∃ SL, 1460 + 64 * min (l - 2) 3 = SL := ⟨_, rfl⟩
  have hSLb : 1460 ≤ SL ∧ SL ≤ 1652 := by omega
  unfold Md.dist at hz
  simp only [hd, hSL] at hz
  obtain ⟨⟨sl, y1⟩, hy⟩ : ∃ q, Md.tree (decIo gd o cap L) SL 6 (slotN d : Nat) y = q := ⟨_, rfl⟩
  simp only [hy] at hz
  have HTR := Lib.hid (qtree_any hM hok (n := 6) (by omega) (at_ := SL) (by simp; omega) hN _ hy)
  have HSLT := Lib.hid (fun w => rslots_any l h2 h3 w)
  rw [hSL] at HSLT
  have hli : (l : Int) ≤ 300 := by omega
  have HZ := Lib.hid hz
  clear hQ hy hSL hM hok hz hSLb hd
  go_enter Try.func43, Try.ntmps43
  go_wp2_with fail
  refine (HSLT.out w).mono ?_
  rintro e w1 ⟨rfl, rfl⟩
  go_wp2_with fail
  refine HTR.out.mono ?_
  rintro e w1 ⟨⟨rfl, hM1, hon1⟩, ok1, hlt⟩
  have hlt : sl < 64 := by simpa using hlt
  have hsli : (sl : Int) < 64 := by omega
  have HM1 := Lib.hid (And.intro hM1 hon1)
  have HOK1 := Lib.hid ok1
  clear hM1 hon1 ok1
  by_cases h4 : sl < 4
  · have h4i : decide ((sl : Int) < 4) = true := decide_eq_true (by omega)
    have hz := HZ.out
    rw [if_pos h4] at hz
    have HZ1 := Lib.hid hz
    clear hz
    go_wp2_with fail
    go_ret
    rw [← HQ.out, ← HZ1.out]
    exact ⟨⟨by first | rfl | exact congrArg (fun n : Int => Ending.returned (Value.int .i64 n)) (by go_num), HM1.out.1, HM1.out.2⟩, HOK1.out, by show 1 ≤ sl + 1; omega, by show sl + 1 ≤ 4294967296; omega⟩
  · have h4i : decide ((sl : Int) < 4) = false := decide_eq_false (by omega)
    have hz := HZ.out
    rw [if_neg h4] at hz
    obtain ⟨n, hn⟩ : ∃ n, sl / 2 - 1 = n := ⟨_, rfl⟩
    have hn1 : (sl : Int) / 2 - 1 = (n : Int) := by omega
    have hn30 : n ≤ 30 := by omega
    have hni : (n : Int) ≤ 30 := by omega
    obtain ⟨SM, hSM⟩ : ∃ SM, sl % 2 = SM := ⟨_, rfl⟩
    have hSM1 : SM ≤ 1 := by omega
    have hSMt : (sl : Int).tmod 2 = (SM : Int) := by rw [Int.tmod_eq_emod_of_nonneg (by omega)]; omega
    rw [hn, hSM] at hz
    have HTW := Lib.hid (fun w => two_any n hn30 w)
    obtain ⟨PW, hPW⟩ : ∃ PW, 2 ^ n = PW := ⟨_, rfl⟩
    have hp30 : PW ≤ 1073741824 := by rw [← hPW]; exact Nat.pow_le_pow_right (i := n) (j := 30) (by omega) hn30
    have hp1 : 1 ≤ PW := by rw [← hPW]; exact Nat.one_le_two_pow
    rw [hPW] at HTW
    obtain ⟨BS, hBS⟩ : ∃ BS, (2 + SM) * PW = BS := ⟨_, rfl⟩
    have hBSi : (2 + (SM : Int)) * (PW : Int) = (BS : Int) := by rw [← hBS, Int.natCast_mul]; rfl
    have hBSl : BS ≤ 3 * PW := by rw [← hBS]; exact Nat.mul_le_mul_right _ (by omega)
    have hPWi : (PW : Int) ≤ 1073741824 := by omega
    have hBSl2 : (BS : Int) ≤ 3221225472 := by omega
    have HPW := Lib.hid (And.intro hPW (And.intro hBS hBSl))
    rw [hPW, hBS] at hz
    have HNN := Lib.hid hn
    have HSMS := Lib.hid hSM
    clear hPW hBS hn hSM
    by_cases h14 : sl < 14
    · have h14i : decide ((sl : Int) < 14) = true := decide_eq_true (by omega)
      rw [if_pos h14] at hz
      have h5 : n ≤ 8 := by have := HNN.out; omega
      obtain ⟨⟨t, y2⟩, ht⟩ : ∃ q, Md.rev (decIo gd o cap L) (1716 + 32 * sl) n (d : Nat) y1 = q := ⟨_, rfl⟩
      simp only [ht] at hz
      have HT := Lib.hid ht
      have HZ1 := Lib.hid hz
      have HTU := Lib.hid (qturned_any HM1.out.1 HOK1.out (n := n) h5 (at_ := 1716 + 32 * sl) (by
        have h8 : n ≤ 5 := by have := HNN.out; omega
        have : 2 ^ n ≤ 2 ^ 5 := Nat.pow_le_pow_right (by omega) h8
        omega) hN _ HT.out)
      have HLOW := Lib.hid (fun w => rlow_any sl hlt w)
      obtain ⟨LO, hLO⟩ : ∃ LO, 1716 + 32 * sl = LO := ⟨_, rfl⟩
      rw [hLO] at HTU HLOW
      clear hz ht hLO hlt h4 h14
      go_wp2_with fail
      refine (HTW.out w1).mono ?_
      rintro e w2 ⟨rfl, rfl⟩
      go_wp2_with fail
      refine (HLOW.out w1).mono ?_
      rintro e w2 ⟨rfl, rfl⟩
      go_wp2_with fail
      refine HTU.out.mono ?_
      rintro e w2 ⟨⟨rfl, hM2, hon2⟩, ok2, htl⟩
      have htl : t < 2 ^ n := htl
      rw [HPW.out.1] at htl
      have hti : (t : Int) < 1073741824 := by omega
      have HM2 := Lib.hid (And.intro hM2 (HM1.out.2.same hon2))
      have HOK2 := Lib.hid ok2
      have HTL := Lib.hid htl
      clear hM2 hon2 ok2 htl
      go_wp2_with fail
      go_ret
      rw [← HQ.out, ← HZ1.out]
      exact ⟨⟨by first | rfl | exact congrArg (fun n : Int => Ending.returned (Value.int .i64 n)) (by go_num), HM2.out.1, HM2.out.2⟩, HOK2.out, by show 1 ≤ BS + t + 1; omega, by show BS + t + 1 ≤ 4294967296; have := HTL.out; have := HPW.out.2.2; omega⟩
    · have h14i : decide ((sl : Int) < 14) = false := decide_eq_false (by omega)
      rw [if_neg h14] at hz
      obtain ⟨m, hm⟩ : ∃ m, n - 4 = m := ⟨_, rfl⟩
      have hmi : (n : Int) - 4 = (m : Int) := by have := HNN.out; omega
      rw [hm] at hz
      obtain ⟨⟨u, s2⟩, hu⟩ : ∃ q, (decIo gd o cap L).plain y1.2 (d / 16 % 2 ^ m) m = q := ⟨_, rfl⟩
      simp only [hu] at hz
      have HPL := Lib.hid (qplain_is HM1.out.1 HOK1.out (m := m) (by omega) _ hu)
      obtain ⟨⟨t, y2⟩, ht⟩ : ∃ q, Md.rev (decIo gd o cap L) 2164 4 (d : Nat) (y1.1, s2) = q := ⟨_, rfl⟩
      simp only [ht] at hz
      have hul : u < 2 ^ m := HPL.out.2.2
      rw [Nat.mod_eq_of_lt hul] at hz
      have hP16 : PW = 16 * 2 ^ m := by
        rw [← HPW.out.1, show (16 : Nat) = 2 ^ 4 from rfl, ← Nat.pow_add, show 4 + m = n by have := HNN.out; omega]
      have HUL := Lib.hid (And.intro hul hP16)
      have hui : (u : Int) ≤ 67108864 := by omega
      have HZ1 := Lib.hid hz
      have HT := Lib.hid ht
      have hr0 : w1.cell? ⟨R, 0, none⟩ = some (PF h) := by rw [cell_of_row w1 _ _ _ _ _ HM1.out.1.rbox]; rfl
      have HAL := Lib.hid (fun w => ralign_any w)
      clear hz ht hlt h4 h14 hu hul hP16 hm
      go_wp2_with fail
      refine (HTW.out w1).mono ?_
      rintro e w2 ⟨rfl, rfl⟩
      go_wp2_with fail
      refine HPL.out.1.mono ?_
      rintro e w2 ⟨rfl, hM2, hon2⟩
      have HTU := Lib.hid (qturned_any hM2 HPL.out.2.1 (n := 4) (by omega) (at_ := 2164) (by simp; omega) hN _ HT.out)
      have HO2 := Lib.hid (HM1.out.2.same hon2)
      clear hM2 hon2
      go_wp2_with fail
      refine (HAL.out w2).mono ?_
      rintro e w3 ⟨rfl, rfl⟩
      go_wp2_with fail
      refine HTU.out.mono ?_
      rintro e w3 ⟨⟨rfl, hM3, hon3⟩, ok3, htl⟩
      have hti : (t : Int) < 16 := by simp at htl; omega
      have HM3 := Lib.hid (And.intro hM3 (HO2.out.same hon3))
      have HOK3 := Lib.hid ok3
      clear hM3 hon3 ok3 htl
      go_wp2_with fail
      go_ret
      rw [← HQ.out, ← HZ1.out]
      exact ⟨⟨by first | rfl | exact congrArg (fun n : Int => Ending.returned (Value.int .i64 n)) (by go_num), HM3.out.1, HM3.out.2⟩, HOK3.out, by show 1 ≤ BS + u * 16 + t + 1; omega, by show BS + u * 16 + t + 1 ≤ 4294967296; have := HUL.out.1; have := HUL.out.2; have := HPW.out.2.2; omega⟩
end Go.Proofs.Ytdkimllfpiphgaa
