/- The walk over sha256.spread. -/
import Derived.Test.YtibkhajhmncgkaaDoorShaMath
import Derived.Deep.RegionHeld3
namespace Go.Proofs.YtibkhajhmncgkaaDoor
open Go.RowKit

theorem next_late (blk : List UInt8) (l : List (BitVec 32)) (n : Nat) (h : 16 ≤ n) : nextW blk l n = l.getD (n - 16) 0 + s0 (l.getD (n - 15) 0) + l.getD (n - 7) 0 + s1 (l.getD (n - 2) 0) := by
  unfold nextW; rw [if_neg (by omega)]
theorem shr_val (x : BitVec 32) (n q : Nat) (hq : q = 2 ^ n) : (x.toNat : Int) / (q : Int) = ((x >>> n).toNat : Int) := by
  subst hq; rw [BitVec.toNat_ushiftRight, Nat.shiftRight_eq_div_pow, Int.natCast_ediv]
theorem s0_val (x : BitVec 32) : bits .xor .u32 (bits .xor .u32 ((rot 7 x).toNat : Int) ((rot 18 x).toNat : Int)) ((x.toNat : Int) / 8) = ((s0 x).toNat : Int) := by
  have h : (x.toNat : Int) / (8 : Int) = ((x >>> 3).toNat : Int) := shr_val x 3 8 rfl
  rw [h, sx32, sx32]; rfl
theorem s1_val (x : BitVec 32) : bits .xor .u32 (bits .xor .u32 ((rot 17 x).toNat : Int) ((rot 19 x).toNat : Int)) ((x.toNat : Int) / 1024) = ((s1 x).toNat : Int) := by
  have h : (x.toNat : Int) / (1024 : Int) = ((x >>> 10).toNat : Int) := shr_val x 10 1024 rfl
  rw [h, sx32, sx32]; rfl
theorem blk_at (blk : List UInt8) (i : Nat) (h : i < blk.length) : (blk.map B8).toArray[i]? = some (B8 (blk.getD i 0)) := by
  rw [List.getElem?_toArray, List.getElem?_map, List.getElem?_eq_getElem h]
  simp [List.getD, h]

set_option maxRecDepth 100000 in
set_option maxHeartbeats 2000000 in
theorem spread_any (blk : List UInt8) (hblk : blk.length = 64) (w : World) :
    Calls Tryd.prog 64 #[.agg (blk.map B8).toArray] w fun e w' => e = .returned (.agg (words blk)) ∧ Below w.heap.size w w' := by
  have hz := (zero_of_info infoW).1
  have hcell : ∀ i, i < 64 → (blk.map B8).toArray[i]? = some (B8 (blk.getD i 0)) := fun i hi => blk_at blk i (by omega)
  have HC := Lib.hid hcell
  clear hcell
  have HW := Lib.hid (fun k (h : k < 16) => (show nextW blk (schedTo blk k) k = be (blk.getD (4 * k) 0) (blk.getD (4 * k + 1) 0) (blk.getD (4 * k + 2) 0) (blk.getD (4 * k + 3) 0) by unfold nextW; rw [if_pos h]; rfl))
  have hbs : (blk.map B8).toArray.size = 64 := by simpa using hblk
  generalize hbl : (blk.map B8).toArray = bl at *
  have HBS := Lib.hid hbs
  clear hbs
  have HBL := Lib.hid hbl
  clear hbl
  go_enter Tryd.func64, Tryd.ntmps64
  go_wp2_with fail
  have eA : (w.alloc (.cells bl 83)).heap.size = w.heap.size + 1 := by simp
  have eB : ((w.alloc (.cells bl 83)).alloc (.cells zero64 91)).heap.size = w.heap.size + 1 + 1 := by simp
  have rb0 : (((w.alloc (.cells bl 83)).alloc (.cells zero64 91)).alloc (.cells zero64 91)).rowIs w.heap.size 83 64 (fun i => B8 (blk.getD i 0)) := by
    have h := World.rowIs_alloc w bl 83 (fun i => B8 (blk.getD i 0)) (fun i hi => HC.out i (by rw [← HBS.out]; exact hi))
    rw [HBS.out] at h
    exact (h.alloc _).alloc _
  have r00 : (((w.alloc (.cells bl 83)).alloc (.cells zero64 91)).alloc (.cells zero64 91)).rowIs (w.heap.size + 1) 91 64 (cellW blk 0) := by
    have h := rowW_new blk (w.alloc (.cells bl 83))
    rw [eA] at h
    exact h.alloc _
  have r10 : (((w.alloc (.cells bl 83)).alloc (.cells zero64 91)).alloc (.cells zero64 91)).rowIs (w.heap.size + 1 + 1) 91 64 (cellW blk 0) := by
    have h := rowW_new blk ((w.alloc (.cells bl 83)).alloc (.cells zero64 91))
    rw [eB] at h
    exact h
  have hb0 : Below w.heap.size w (((w.alloc (.cells bl 83)).alloc (.cells zero64 91)).alloc (.cells zero64 91)) := (((Below.refl _ _).alloc (Nat.le_refl _) _).alloc (by simp) _).alloc (by simp; omega) _
  clear eA eB HC
  generalize ((w.alloc (.cells bl 83)).alloc (.cells zero64 91)).alloc (.cells zero64 91) = w1 at *
  generalize hg1 : w.heap.size + 1 = g1 at *
  generalize hg2 : g1 + 1 = g2 at *
  have hl1 : w.heap.size < g1 := by omega
  have hl2 : g1 < g2 := by omega
  have hne1 : g2 ≠ w.heap.size := by omega
  clear hg1 hg2
  go_loopw [10] (fun i wr => ∃ k : Nat, k ≤ 16 ∧ i = .int .i64 k ∧ wr.rowIs w.heap.size 83 64 (fun i => B8 (blk.getD i 0)) ∧ wr.rowIs g1 91 64 (cellW blk 0) ∧ wr.rowIs g2 91 64 (cellW blk k) ∧ Below w.heap.size w wr) (fun i _ => 16 - (intOf i).toNat)
  case atStart => exact ⟨0, by omega, rfl, rb0, r00, r10, hb0⟩
  case round =>
    clear rb0 r00 r10 hb0
    obtain ⟨k, hk, rfl, rb, r0, r1, hb⟩ := hrel
    by_cases hlt : k < 16
    · have hc0 : wr.cell? ⟨w.heap.size, 4 * k, none⟩ = some (B8 (blk.getD (4 * k) 0)) := rb.cell (by omega)
      have hc1 : wr.cell? ⟨w.heap.size, 4 * k + 1, none⟩ = some (B8 (blk.getD (4 * k + 1) 0)) := rb.cell (by omega)
      have hc2 : wr.cell? ⟨w.heap.size, 4 * k + 2, none⟩ = some (B8 (blk.getD (4 * k + 2) 0)) := rb.cell (by omega)
      have hc3 : wr.cell? ⟨w.heap.size, 4 * k + 3, none⟩ = some (B8 (blk.getD (4 * k + 3) 0)) := rb.cell (by omega)
      have hn := HW.out k hlt
      generalize blk.getD (4 * k) 0 = b0 at *
      generalize blk.getD (4 * k + 1) 0 = b1 at *
      generalize blk.getD (4 * k + 2) 0 = b2 at *
      generalize blk.getD (4 * k + 3) 0 = b3 at *
      have hw := r1.cell (i := k) (by omega)
      have hf := r1.frozen k
      have HBE := Lib.hid (be_of b0 b1 b2 b3)
      generalize be b0 b1 b2 b3 = v at *
      have HN := Lib.hid hn
      clear hn
      have hother : ∀ j, (wr.setCell ⟨g2, k, none⟩ (U32 v)).drew.cell? ⟨w.heap.size, j, none⟩ = wr.cell? ⟨w.heap.size, j, none⟩ := fun j => World.cell?_setCell_other _ _ _ _ (by intro e; injection e with e; exact hne1 e)
      have HAFT : Hid ((wr.setCell ⟨g2, k, none⟩ (U32 v)).drew.cell? ⟨w.heap.size, 4 * k, none⟩ = some (B8 b0) ∧ (wr.setCell ⟨g2, k, none⟩ (U32 v)).drew.cell? ⟨w.heap.size, 4 * k + 1, none⟩ = some (B8 b1) ∧ (wr.setCell ⟨g2, k, none⟩ (U32 v)).drew.cell? ⟨w.heap.size, 4 * k + 2, none⟩ = some (B8 b2) ∧ (wr.setCell ⟨g2, k, none⟩ (U32 v)).drew.cell? ⟨w.heap.size, 4 * k + 3, none⟩ = some (B8 b3)) :=
        Lib.hid ⟨(hother _).trans hc0, (hother _).trans hc1, (hother _).trans hc2, (hother _).trans hc3⟩
      have k0 : wr.drew.cell? ⟨w.heap.size, 4 * k, none⟩ = some (B8 b0) := hc0
      have k1 : wr.drew.cell? ⟨w.heap.size, 4 * k + 1, none⟩ = some (B8 b1) := hc1
      have k2 : wr.drew.cell? ⟨w.heap.size, 4 * k + 2, none⟩ = some (B8 b2) := hc2
      have k3 : wr.drew.cell? ⟨w.heap.size, 4 * k + 3, none⟩ = some (B8 b3) := hc3
      clear hother hc0 hc1 hc2 hc3
      go_wp2_with fail
      refine wp_region_held_drew (S := fun w' => w'.cell? ⟨w.heap.size, 4 * k, none⟩ = some (B8 b0) ∧ w'.cell? ⟨w.heap.size, 4 * k + 1, none⟩ = some (B8 b1) ∧ w'.cell? ⟨w.heap.size, 4 * k + 2, none⟩ = some (B8 b2) ∧ w'.cell? ⟨w.heap.size, 4 * k + 3, none⟩ = some (B8 b3)) (by kernel_rfl) ⟨k0, k1, k2, k3⟩ (fun hS => ?_)
      refine wpAnyH_take (i := 0) (oi := { dst := some 13, op := Op.move (Operand.tmp 4), type := 3, pos := "sha256.go:108", after := #[], guard := none }) (v := ?va1) rfl (by kernel_rfl) (by kernel_rfl) (by kernel_rfl) (fun _ _ _ h => h) (Or.inl ⟨by rfl, ?ya1⟩) hS ?_
      case ya1 =>
        intro w hSw
        go_simp; all_goals (with_reducible rfl)
      simp only [Act.put, List.setIfInBounds_toArray, List.set_cons_zero, List.set_cons_succ]
      refine wpAnyH_take (i := 1) (oi := { dst := some 14, op := Op.move (Operand.tmp 4), type := 3, pos := "sha256.go:108", after := #[], guard := none }) (v := ?va2) rfl (by kernel_rfl) (by kernel_rfl) (by kernel_rfl) (fun _ _ _ h => h) (Or.inl ⟨by rfl, ?ya2⟩) hS ?_
      case ya2 =>
        intro w hSw
        go_simp; all_goals (with_reducible rfl)
      simp only [Act.put, List.setIfInBounds_toArray, List.set_cons_zero, List.set_cons_succ]
      refine wpAnyH_take (i := 2) (oi := { dst := some 15, op := Op.binOp BinOp.mul 3 (Operand.const (Value.int IntKind.i64 4)) (Operand.tmp 14) 3, type := 3, pos := "sha256.go:108", after := #[{ on := 1, ground := Ground.data }], guard := none }) (v := ?va3) rfl (by kernel_rfl) (by kernel_rfl) (by kernel_rfl) (fun _ _ _ h => h) (Or.inl ⟨by rfl, ?ya3⟩) hS ?_
      case ya3 =>
        intro w hSw
        have q := IntWalk.i64_in (4 * (k : Int)) (by omega)
        go_simp; all_goals (with_reducible rfl)
      simp only [Act.put, List.setIfInBounds_toArray, List.set_cons_zero, List.set_cons_succ]
      refine wpAnyH_take (i := 3) (oi := { dst := some 16, op := Op.indexAddr 83 (Operand.tmp 1) (Operand.tmp 15), type := 0, pos := "sha256.go:108", after := #[{ on := 2, ground := Ground.data }], guard := none }) (v := ?va4) rfl (by kernel_rfl) (by kernel_rfl) (by kernel_rfl) (fun _ _ _ h => h) (Or.inl ⟨by rfl, ?ya4⟩) hS ?_
      case ya4 =>
        intro w hSw
        have q0 : (0 : Int) ≤ 4 * (k : Int) := by omega
        have q1 : 4 * (k : Int) < 64 := by omega
        have q2 : (4 * (k : Int)).toNat = 4 * k := by omega
        go_simp; all_goals (with_reducible rfl)
      simp only [Act.put, List.setIfInBounds_toArray, List.set_cons_zero, List.set_cons_succ]
      refine wpAnyH_take (i := 4) (oi := { dst := some 17, op := Op.load 5 (Operand.tmp 16), type := 5, pos := "sha256.go:108", after := #[{ on := 3, ground := Ground.data }], guard := none }) (v := ?va5) rfl (by kernel_rfl) (by kernel_rfl) (by kernel_rfl) (fun _ _ _ h => h) (Or.inl ⟨by rfl, ?ya5⟩) hS ?_
      case ya5 =>
        intro w hSw
        obtain ⟨j0, j1, j2, j3⟩ := hSw
        go_simp; all_goals (with_reducible rfl)
      simp only [Act.put, List.setIfInBounds_toArray, List.set_cons_zero, List.set_cons_succ]
      refine wpAnyH_take (i := 5) (oi := { dst := some 18, op := Op.convert 5 53 (Operand.tmp 17), type := 53, pos := "sha256.go:108", after := #[{ on := 4, ground := Ground.data }], guard := none }) (v := ?va6) rfl (by kernel_rfl) (by kernel_rfl) (by kernel_rfl) (fun _ _ _ h => h) (Or.inl ⟨by rfl, ?ya6⟩) hS ?_
      case ya6 =>
        intro w hSw
        go_simp; all_goals (with_reducible rfl)
      simp only [Act.put, List.setIfInBounds_toArray, List.set_cons_zero, List.set_cons_succ]
      refine wpAnyH_take (i := 6) (oi := { dst := some 19, op := Op.binOp BinOp.shl 53 (Operand.tmp 18) (Operand.const (Value.int IntKind.u64 24)) 57, type := 53, pos := "sha256.go:108", after := #[{ on := 5, ground := Ground.data }], guard := none }) (v := ?va7) rfl (by kernel_rfl) (by kernel_rfl) (by kernel_rfl) (fun _ _ _ h => h) (Or.inl ⟨by rfl, ?ya7⟩) hS ?_
      case ya7 =>
        intro w hSw
        go_simp; all_goals (with_reducible rfl)
      simp only [Act.put, List.setIfInBounds_toArray, List.set_cons_zero, List.set_cons_succ]
      refine wpAnyH_take (i := 7) (oi := { dst := some 20, op := Op.move (Operand.tmp 4), type := 3, pos := "sha256.go:108", after := #[], guard := none }) (v := ?va8) rfl (by kernel_rfl) (by kernel_rfl) (by kernel_rfl) (fun _ _ _ h => h) (Or.inl ⟨by rfl, ?ya8⟩) hS ?_
      case ya8 =>
        intro w hSw
        go_simp; all_goals (with_reducible rfl)
      simp only [Act.put, List.setIfInBounds_toArray, List.set_cons_zero, List.set_cons_succ]
      refine wpAnyH_take (i := 8) (oi := { dst := some 21, op := Op.binOp BinOp.mul 3 (Operand.const (Value.int IntKind.i64 4)) (Operand.tmp 20) 3, type := 3, pos := "sha256.go:108", after := #[{ on := 7, ground := Ground.data }], guard := none }) (v := ?va9) rfl (by kernel_rfl) (by kernel_rfl) (by kernel_rfl) (fun _ _ _ h => h) (Or.inl ⟨by rfl, ?ya9⟩) hS ?_
      case ya9 =>
        intro w hSw
        have q := IntWalk.i64_in (4 * (k : Int)) (by omega)
        go_simp; all_goals (with_reducible rfl)
      simp only [Act.put, List.setIfInBounds_toArray, List.set_cons_zero, List.set_cons_succ]
      refine wpAnyH_take (i := 9) (oi := { dst := some 22, op := Op.binOp BinOp.add 3 (Operand.tmp 21) (Operand.const (Value.int IntKind.i64 1)) 3, type := 3, pos := "sha256.go:108", after := #[{ on := 8, ground := Ground.data }], guard := none }) (v := ?va10) rfl (by kernel_rfl) (by kernel_rfl) (by kernel_rfl) (fun _ _ _ h => h) (Or.inl ⟨by rfl, ?ya10⟩) hS ?_
      case ya10 =>
        intro w hSw
        have q := IntWalk.i64_in (4 * (k : Int) + 1) (by omega)
        go_simp; all_goals (with_reducible rfl)
      simp only [Act.put, List.setIfInBounds_toArray, List.set_cons_zero, List.set_cons_succ]
      refine wpAnyH_take (i := 10) (oi := { dst := some 23, op := Op.indexAddr 83 (Operand.tmp 1) (Operand.tmp 22), type := 0, pos := "sha256.go:108", after := #[{ on := 9, ground := Ground.data }], guard := none }) (v := ?va11) rfl (by kernel_rfl) (by kernel_rfl) (by kernel_rfl) (fun _ _ _ h => h) (Or.inl ⟨by rfl, ?ya11⟩) hS ?_
      case ya11 =>
        intro w hSw
        have q0 : (0 : Int) ≤ 4 * (k : Int) + 1 := by omega
        have q1 : 4 * (k : Int) + 1 < 64 := by omega
        have q2 : (4 * (k : Int) + 1).toNat = 4 * k + 1 := by omega
        go_simp; all_goals (with_reducible rfl)
      simp only [Act.put, List.setIfInBounds_toArray, List.set_cons_zero, List.set_cons_succ]
      refine wpAnyH_take (i := 11) (oi := { dst := some 24, op := Op.load 5 (Operand.tmp 23), type := 5, pos := "sha256.go:108", after := #[{ on := 10, ground := Ground.data }], guard := none }) (v := ?va12) rfl (by kernel_rfl) (by kernel_rfl) (by kernel_rfl) (fun _ _ _ h => h) (Or.inl ⟨by rfl, ?ya12⟩) hS ?_
      case ya12 =>
        intro w hSw
        obtain ⟨j0, j1, j2, j3⟩ := hSw
        go_simp; all_goals (with_reducible rfl)
      simp only [Act.put, List.setIfInBounds_toArray, List.set_cons_zero, List.set_cons_succ]
      refine wpAnyH_take (i := 12) (oi := { dst := some 25, op := Op.convert 5 53 (Operand.tmp 24), type := 53, pos := "sha256.go:108", after := #[{ on := 11, ground := Ground.data }], guard := none }) (v := ?va13) rfl (by kernel_rfl) (by kernel_rfl) (by kernel_rfl) (fun _ _ _ h => h) (Or.inl ⟨by rfl, ?ya13⟩) hS ?_
      case ya13 =>
        intro w hSw
        go_simp; all_goals (with_reducible rfl)
      simp only [Act.put, List.setIfInBounds_toArray, List.set_cons_zero, List.set_cons_succ]
      refine wpAnyH_take (i := 13) (oi := { dst := some 26, op := Op.binOp BinOp.shl 53 (Operand.tmp 25) (Operand.const (Value.int IntKind.u64 16)) 57, type := 53, pos := "sha256.go:108", after := #[{ on := 12, ground := Ground.data }], guard := none }) (v := ?va14) rfl (by kernel_rfl) (by kernel_rfl) (by kernel_rfl) (fun _ _ _ h => h) (Or.inl ⟨by rfl, ?ya14⟩) hS ?_
      case ya14 =>
        intro w hSw
        go_simp; all_goals (with_reducible rfl)
      simp only [Act.put, List.setIfInBounds_toArray, List.set_cons_zero, List.set_cons_succ]
      refine wpAnyH_take (i := 14) (oi := { dst := some 27, op := Op.binOp BinOp.or 53 (Operand.tmp 19) (Operand.tmp 26) 53, type := 53, pos := "sha256.go:108", after := #[{ on := 6, ground := Ground.data }, { on := 13, ground := Ground.data }], guard := none }) (v := ?va15) rfl (by kernel_rfl) (by kernel_rfl) (by kernel_rfl) (fun _ _ _ h => h) (Or.inl ⟨by rfl, ?ya15⟩) hS ?_
      case ya15 =>
        intro w hSw
        go_simp; all_goals (with_reducible rfl)
      simp only [Act.put, List.setIfInBounds_toArray, List.set_cons_zero, List.set_cons_succ]
      refine wpAnyH_take (i := 15) (oi := { dst := some 28, op := Op.move (Operand.tmp 4), type := 3, pos := "sha256.go:108", after := #[], guard := none }) (v := ?va16) rfl (by kernel_rfl) (by kernel_rfl) (by kernel_rfl) (fun _ _ _ h => h) (Or.inl ⟨by rfl, ?ya16⟩) hS ?_
      case ya16 =>
        intro w hSw
        go_simp; all_goals (with_reducible rfl)
      simp only [Act.put, List.setIfInBounds_toArray, List.set_cons_zero, List.set_cons_succ]
      refine wpAnyH_take (i := 16) (oi := { dst := some 29, op := Op.binOp BinOp.mul 3 (Operand.const (Value.int IntKind.i64 4)) (Operand.tmp 28) 3, type := 3, pos := "sha256.go:108", after := #[{ on := 15, ground := Ground.data }], guard := none }) (v := ?va17) rfl (by kernel_rfl) (by kernel_rfl) (by kernel_rfl) (fun _ _ _ h => h) (Or.inl ⟨by rfl, ?ya17⟩) hS ?_
      case ya17 =>
        intro w hSw
        have q := IntWalk.i64_in (4 * (k : Int)) (by omega)
        go_simp; all_goals (with_reducible rfl)
      simp only [Act.put, List.setIfInBounds_toArray, List.set_cons_zero, List.set_cons_succ]
      refine wpAnyH_take (i := 17) (oi := { dst := some 30, op := Op.binOp BinOp.add 3 (Operand.tmp 29) (Operand.const (Value.int IntKind.i64 2)) 3, type := 3, pos := "sha256.go:108", after := #[{ on := 16, ground := Ground.data }], guard := none }) (v := ?va18) rfl (by kernel_rfl) (by kernel_rfl) (by kernel_rfl) (fun _ _ _ h => h) (Or.inl ⟨by rfl, ?ya18⟩) hS ?_
      case ya18 =>
        intro w hSw
        have q := IntWalk.i64_in (4 * (k : Int) + 2) (by omega)
        go_simp; all_goals (with_reducible rfl)
      simp only [Act.put, List.setIfInBounds_toArray, List.set_cons_zero, List.set_cons_succ]
      refine wpAnyH_take (i := 18) (oi := { dst := some 31, op := Op.indexAddr 83 (Operand.tmp 1) (Operand.tmp 30), type := 0, pos := "sha256.go:108", after := #[{ on := 17, ground := Ground.data }], guard := none }) (v := ?va19) rfl (by kernel_rfl) (by kernel_rfl) (by kernel_rfl) (fun _ _ _ h => h) (Or.inl ⟨by rfl, ?ya19⟩) hS ?_
      case ya19 =>
        intro w hSw
        have q0 : (0 : Int) ≤ 4 * (k : Int) + 2 := by omega
        have q1 : 4 * (k : Int) + 2 < 64 := by omega
        have q2 : (4 * (k : Int) + 2).toNat = 4 * k + 2 := by omega
        go_simp; all_goals (with_reducible rfl)
      simp only [Act.put, List.setIfInBounds_toArray, List.set_cons_zero, List.set_cons_succ]
      refine wpAnyH_take (i := 19) (oi := { dst := some 32, op := Op.load 5 (Operand.tmp 31), type := 5, pos := "sha256.go:108", after := #[{ on := 18, ground := Ground.data }], guard := none }) (v := ?va20) rfl (by kernel_rfl) (by kernel_rfl) (by kernel_rfl) (fun _ _ _ h => h) (Or.inl ⟨by rfl, ?ya20⟩) hS ?_
      case ya20 =>
        intro w hSw
        obtain ⟨j0, j1, j2, j3⟩ := hSw
        go_simp; all_goals (with_reducible rfl)
      simp only [Act.put, List.setIfInBounds_toArray, List.set_cons_zero, List.set_cons_succ]
      refine wpAnyH_take (i := 20) (oi := { dst := some 33, op := Op.convert 5 53 (Operand.tmp 32), type := 53, pos := "sha256.go:108", after := #[{ on := 19, ground := Ground.data }], guard := none }) (v := ?va21) rfl (by kernel_rfl) (by kernel_rfl) (by kernel_rfl) (fun _ _ _ h => h) (Or.inl ⟨by rfl, ?ya21⟩) hS ?_
      case ya21 =>
        intro w hSw
        go_simp; all_goals (with_reducible rfl)
      simp only [Act.put, List.setIfInBounds_toArray, List.set_cons_zero, List.set_cons_succ]
      refine wpAnyH_take (i := 21) (oi := { dst := some 34, op := Op.binOp BinOp.shl 53 (Operand.tmp 33) (Operand.const (Value.int IntKind.u64 8)) 57, type := 53, pos := "sha256.go:108", after := #[{ on := 20, ground := Ground.data }], guard := none }) (v := ?va22) rfl (by kernel_rfl) (by kernel_rfl) (by kernel_rfl) (fun _ _ _ h => h) (Or.inl ⟨by rfl, ?ya22⟩) hS ?_
      case ya22 =>
        intro w hSw
        go_simp; all_goals (with_reducible rfl)
      simp only [Act.put, List.setIfInBounds_toArray, List.set_cons_zero, List.set_cons_succ]
      refine wpAnyH_take (i := 22) (oi := { dst := some 35, op := Op.binOp BinOp.or 53 (Operand.tmp 27) (Operand.tmp 34) 53, type := 53, pos := "sha256.go:108", after := #[{ on := 14, ground := Ground.data }, { on := 21, ground := Ground.data }], guard := none }) (v := ?va23) rfl (by kernel_rfl) (by kernel_rfl) (by kernel_rfl) (fun _ _ _ h => h) (Or.inl ⟨by rfl, ?ya23⟩) hS ?_
      case ya23 =>
        intro w hSw
        go_simp; all_goals (with_reducible rfl)
      simp only [Act.put, List.setIfInBounds_toArray, List.set_cons_zero, List.set_cons_succ]
      refine wpAnyH_take (i := 23) (oi := { dst := some 36, op := Op.move (Operand.tmp 4), type := 3, pos := "sha256.go:108", after := #[], guard := none }) (v := ?va24) rfl (by kernel_rfl) (by kernel_rfl) (by kernel_rfl) (fun _ _ _ h => h) (Or.inl ⟨by rfl, ?ya24⟩) hS ?_
      case ya24 =>
        intro w hSw
        go_simp; all_goals (with_reducible rfl)
      simp only [Act.put, List.setIfInBounds_toArray, List.set_cons_zero, List.set_cons_succ]
      refine wpAnyH_take (i := 24) (oi := { dst := some 37, op := Op.binOp BinOp.mul 3 (Operand.const (Value.int IntKind.i64 4)) (Operand.tmp 36) 3, type := 3, pos := "sha256.go:108", after := #[{ on := 23, ground := Ground.data }], guard := none }) (v := ?va25) rfl (by kernel_rfl) (by kernel_rfl) (by kernel_rfl) (fun _ _ _ h => h) (Or.inl ⟨by rfl, ?ya25⟩) hS ?_
      case ya25 =>
        intro w hSw
        have q := IntWalk.i64_in (4 * (k : Int)) (by omega)
        go_simp; all_goals (with_reducible rfl)
      simp only [Act.put, List.setIfInBounds_toArray, List.set_cons_zero, List.set_cons_succ]
      refine wpAnyH_take (i := 25) (oi := { dst := some 38, op := Op.binOp BinOp.add 3 (Operand.tmp 37) (Operand.const (Value.int IntKind.i64 3)) 3, type := 3, pos := "sha256.go:108", after := #[{ on := 24, ground := Ground.data }], guard := none }) (v := ?va26) rfl (by kernel_rfl) (by kernel_rfl) (by kernel_rfl) (fun _ _ _ h => h) (Or.inl ⟨by rfl, ?ya26⟩) hS ?_
      case ya26 =>
        intro w hSw
        have q := IntWalk.i64_in (4 * (k : Int) + 3) (by omega)
        go_simp; all_goals (with_reducible rfl)
      simp only [Act.put, List.setIfInBounds_toArray, List.set_cons_zero, List.set_cons_succ]
      refine wpAnyH_take (i := 26) (oi := { dst := some 39, op := Op.indexAddr 83 (Operand.tmp 1) (Operand.tmp 38), type := 0, pos := "sha256.go:108", after := #[{ on := 25, ground := Ground.data }], guard := none }) (v := ?va27) rfl (by kernel_rfl) (by kernel_rfl) (by kernel_rfl) (fun _ _ _ h => h) (Or.inl ⟨by rfl, ?ya27⟩) hS ?_
      case ya27 =>
        intro w hSw
        have q0 : (0 : Int) ≤ 4 * (k : Int) + 3 := by omega
        have q1 : 4 * (k : Int) + 3 < 64 := by omega
        have q2 : (4 * (k : Int) + 3).toNat = 4 * k + 3 := by omega
        go_simp; all_goals (with_reducible rfl)
      simp only [Act.put, List.setIfInBounds_toArray, List.set_cons_zero, List.set_cons_succ]
      refine wpAnyH_take (i := 27) (oi := { dst := some 40, op := Op.load 5 (Operand.tmp 39), type := 5, pos := "sha256.go:108", after := #[{ on := 26, ground := Ground.data }], guard := none }) (v := ?va28) rfl (by kernel_rfl) (by kernel_rfl) (by kernel_rfl) (fun _ _ _ h => h) (Or.inl ⟨by rfl, ?ya28⟩) hS ?_
      case ya28 =>
        intro w hSw
        obtain ⟨j0, j1, j2, j3⟩ := hSw
        go_simp; all_goals (with_reducible rfl)
      simp only [Act.put, List.setIfInBounds_toArray, List.set_cons_zero, List.set_cons_succ]
      refine wpAnyH_take (i := 28) (oi := { dst := some 41, op := Op.convert 5 53 (Operand.tmp 40), type := 53, pos := "sha256.go:108", after := #[{ on := 27, ground := Ground.data }], guard := none }) (v := ?va29) rfl (by kernel_rfl) (by kernel_rfl) (by kernel_rfl) (fun _ _ _ h => h) (Or.inl ⟨by rfl, ?ya29⟩) hS ?_
      case ya29 =>
        intro w hSw
        go_simp; all_goals (with_reducible rfl)
      simp only [Act.put, List.setIfInBounds_toArray, List.set_cons_zero, List.set_cons_succ]
      refine wpAnyH_take (i := 29) (oi := { dst := some 42, op := Op.binOp BinOp.or 53 (Operand.tmp 35) (Operand.tmp 41) 53, type := 53, pos := "sha256.go:108", after := #[{ on := 22, ground := Ground.data }, { on := 28, ground := Ground.data }], guard := none }) (v := ?va30) rfl (by kernel_rfl) (by kernel_rfl) (by kernel_rfl) (fun _ _ _ h => h) (Or.inl ⟨by rfl, ?ya30⟩) hS ?_
      case ya30 =>
        intro w hSw
        go_simp; all_goals (with_reducible rfl)
      simp only [Act.put, List.setIfInBounds_toArray, List.set_cons_zero, List.set_cons_succ]
      rw [HBE.out]
      refine wpAnyH_take (i := 30) (oi := { dst := some 43, op := Op.indexAddr 91 (Operand.tmp 3) (Operand.tmp 13), type := 0, pos := "sha256.go:108", after := #[{ on := 0, ground := Ground.data }, { on := 0, ground := Ground.phase }, { on := 1, ground := Ground.phase }, { on := 2, ground := Ground.phase }, { on := 3, ground := Ground.phase }, { on := 4, ground := Ground.phase }, { on := 5, ground := Ground.phase }, { on := 6, ground := Ground.phase }, { on := 7, ground := Ground.phase }, { on := 8, ground := Ground.phase }, { on := 9, ground := Ground.phase }, { on := 10, ground := Ground.phase }, { on := 11, ground := Ground.phase }, { on := 12, ground := Ground.phase }, { on := 13, ground := Ground.phase }, { on := 14, ground := Ground.phase }, { on := 15, ground := Ground.phase }, { on := 16, ground := Ground.phase }, { on := 17, ground := Ground.phase }, { on := 18, ground := Ground.phase }, { on := 19, ground := Ground.phase }, { on := 20, ground := Ground.phase }, { on := 21, ground := Ground.phase }, { on := 22, ground := Ground.phase }, { on := 23, ground := Ground.phase }, { on := 24, ground := Ground.phase }, { on := 25, ground := Ground.phase }, { on := 26, ground := Ground.phase }, { on := 27, ground := Ground.phase }, { on := 28, ground := Ground.phase }, { on := 29, ground := Ground.phase }], guard := none }) (v := ?va31) rfl (by kernel_rfl) (by kernel_rfl) (by kernel_rfl) (fun _ _ _ h => h) (Or.inl ⟨by rfl, ?ya31⟩) hS ?_
      case ya31 =>
        intro w hSw
        have q0 : (0 : Int) ≤ (k : Int) := by omega
        have q1 : (k : Int) < 64 := by omega
        go_simp; all_goals (with_reducible rfl)
      simp only [Act.put, List.setIfInBounds_toArray, List.set_cons_zero, List.set_cons_succ]
      refine wpAnyH_ready (rs := [31]) (by kernel_rfl) (by simp) ?_
      refine (AllReadyH.cons (o := { dst := none, op := Op.store 53 (Operand.tmp 43) (Operand.tmp 42), type := 0, pos := "sha256.go:108", after := #[{ on := 30, ground := Ground.data }, { on := 29, ground := Ground.data }, { on := 0, ground := Ground.phase }, { on := 1, ground := Ground.phase }, { on := 2, ground := Ground.phase }, { on := 3, ground := Ground.phase }, { on := 4, ground := Ground.phase }, { on := 5, ground := Ground.phase }, { on := 6, ground := Ground.phase }, { on := 7, ground := Ground.phase }, { on := 8, ground := Ground.phase }, { on := 9, ground := Ground.phase }, { on := 10, ground := Ground.phase }, { on := 11, ground := Ground.phase }, { on := 12, ground := Ground.phase }, { on := 13, ground := Ground.phase }, { on := 14, ground := Ground.phase }, { on := 15, ground := Ground.phase }, { on := 16, ground := Ground.phase }, { on := 17, ground := Ground.phase }, { on := 18, ground := Ground.phase }, { on := 19, ground := Ground.phase }, { on := 20, ground := Ground.phase }, { on := 21, ground := Ground.phase }, { on := 22, ground := Ground.phase }, { on := 23, ground := Ground.phase }, { on := 24, ground := Ground.phase }, { on := 25, ground := Ground.phase }, { on := 26, ground := Ground.phase }, { on := 27, ground := Ground.phase }, { on := 28, ground := Ground.phase }, { on := 29, ground := Ground.phase }], guard := none }) rfl (fun K hK => ?_) AllReadyH.nil)
      go_simp
      refine hK.out _ _ HAFT.out (fun _ => ?_)
      clear hK K
      refine wpAnyH_done (by kernel_rfl) ?_ _
      go_wp2_with fail
      go_roundw
      case rel =>
        refine ⟨k + 1, by omega, by go_num, rb.setOther (by simp; omega) _, r0.setOther (by simp; omega) _, ?_, (hb.setCell (by simp; omega) _).drew⟩
        exact (r1.set k _).congr fun i _ => by rw [← HN.out]; exact cellW_set blk k i
      case measure => simp [intOf]; omega
    · obtain rfl : k = 16 := by omega
      clear hlt rb HW hk
      rw [show ((16 : Nat) : Int) = 16 from rfl]
      go_wp2_with fail
      go_loopw [5] (fun i wr => ∃ k : Nat, 16 ≤ k ∧ k ≤ 64 ∧ i = .int .i64 k ∧ wr.rowIs g1 91 64 (cellW blk 0) ∧ wr.rowIs g2 91 64 (cellW blk k) ∧ Below w.heap.size w wr) (fun i _ => 64 - (intOf i).toNat)
      case atStart => exact ⟨16, by omega, by omega, rfl, r0, r1, hb⟩
      case round =>
        clear r0 r1 hb
        obtain ⟨k, hk16, hk, rfl, r0, r1, hb⟩ := hrel
        by_cases hlt : k < 64
        · have hc1 : _ := r1.cell (i := k - 15) (by omega)
          have hc2 : _ := r1.cell (i := k - 2) (by omega)
          have hc3 : _ := r1.cell (i := k - 16) (by omega)
          have hc4 : _ := r1.cell (i := k - 7) (by omega)
          have hw := r1.cell (i := k) (by omega)
          have hf := r1.frozen k
          have hn := next_late blk (schedTo blk k) k hk16
          unfold cellW at hc1 hc2 hc3 hc4
          generalize (schedTo blk k).getD (k - 15) 0 = x at *
          generalize (schedTo blk k).getD (k - 2) 0 = y at *
          generalize (schedTo blk k).getD (k - 16) 0 = a at *
          generalize (schedTo blk k).getD (k - 7) 0 = b at *
          have HS0 := Lib.hid (s0_val x)
          have HS1 := Lib.hid (s1_val y)
          generalize s0 x = p at *
          generalize s1 y = q at *
          have HNX := Lib.hid hn
          have HN1 := Lib.hid (add32 a p)
          generalize a + p = v1 at *
          have HN2 := Lib.hid (add32 v1 b)
          generalize v1 + b = v2 at *
          have HN3 := Lib.hid (add32 v2 q)
          generalize v2 + q = v at *
          clear hn
          have hother : ∀ j, j < k → (wr.drew.setCell ⟨g2, k, none⟩ (U32 v)).drew.cell? ⟨g2, j, none⟩ = wr.cell? ⟨g2, j, none⟩ := fun j hj => World.cell?_setCell_other _ _ _ _ (by intro e; injection e with _ e; omega)
          have HAFT : Hid ((wr.drew.setCell ⟨g2, k, none⟩ (U32 v)).drew.cell? ⟨g2, k - 16, none⟩ = some (U32 a) ∧ (wr.drew.setCell ⟨g2, k, none⟩ (U32 v)).drew.cell? ⟨g2, k - 7, none⟩ = some (U32 b)) :=
            Lib.hid ⟨(hother _ (by omega)).trans hc3, (hother _ (by omega)).trans hc4⟩
          have k1 : wr.drew.cell? ⟨g2, k - 15, none⟩ = some (U32 x) := hc1
          have k2 : wr.drew.cell? ⟨g2, k - 2, none⟩ = some (U32 y) := hc2
          have k3 : wr.drew.drew.cell? ⟨g2, k - 16, none⟩ = some (U32 a) := hc3
          have k4 : wr.drew.drew.cell? ⟨g2, k - 7, none⟩ = some (U32 b) := hc4
          clear hother hc1 hc2 hc3 hc4
          go_wp2_with fail
          refine wp_region_held_drew (S := fun w' => w'.cell? ⟨g2, k - 15, none⟩ = some (U32 x) ∧ w'.cell? ⟨g2, k - 2, none⟩ = some (U32 y)) (by kernel_rfl) ⟨k1, k2⟩ (fun hS => ?_)
          refine wpAnyH_take (i := 0) (oi := { dst := some 49, op := Op.move (Operand.tmp 5), type := 3, pos := "sha256.go:111", after := #[], guard := none }) (v := ?vb32) rfl (by kernel_rfl) (by kernel_rfl) (by kernel_rfl) (fun _ _ _ h => h) (Or.inl ⟨by rfl, ?yb32⟩) hS ?_
          case yb32 =>
            intro w hSw
            go_simp; all_goals (with_reducible rfl)
          simp only [Act.put, List.setIfInBounds_toArray, List.set_cons_zero, List.set_cons_succ]
          refine wpAnyH_take (i := 1) (oi := { dst := some 50, op := Op.binOp BinOp.sub 3 (Operand.tmp 49) (Operand.const (Value.int IntKind.i64 15)) 3, type := 3, pos := "sha256.go:111", after := #[{ on := 0, ground := Ground.data }], guard := none }) (v := ?vb33) rfl (by kernel_rfl) (by kernel_rfl) (by kernel_rfl) (fun _ _ _ h => h) (Or.inl ⟨by rfl, ?yb33⟩) hS ?_
          case yb33 =>
            intro w hSw
            have q := IntWalk.i64_in ((k : Int) - 15) (by omega)
            go_simp; all_goals (with_reducible rfl)
          simp only [Act.put, List.setIfInBounds_toArray, List.set_cons_zero, List.set_cons_succ]
          refine wpAnyH_take (i := 2) (oi := { dst := some 51, op := Op.indexAddr 91 (Operand.tmp 3) (Operand.tmp 50), type := 0, pos := "sha256.go:111", after := #[{ on := 1, ground := Ground.data }], guard := none }) (v := ?vb34) rfl (by kernel_rfl) (by kernel_rfl) (by kernel_rfl) (fun _ _ _ h => h) (Or.inl ⟨by rfl, ?yb34⟩) hS ?_
          case yb34 =>
            intro w hSw
            have q0 : (0 : Int) ≤ (k : Int) - 15 := by omega
            have q1 : (k : Int) - 15 < 64 := by omega
            have q2 : ((k : Int) - 15).toNat = k - 15 := by omega
            have q3 : (15 : Int) ≤ (k : Int) := by omega
            go_simp; all_goals (with_reducible rfl)
          simp only [Act.put, List.setIfInBounds_toArray, List.set_cons_zero, List.set_cons_succ]
          refine wpAnyH_take (i := 3) (oi := { dst := some 52, op := Op.load 53 (Operand.tmp 51), type := 53, pos := "sha256.go:111", after := #[{ on := 2, ground := Ground.data }], guard := none }) (v := ?vb35) rfl (by kernel_rfl) (by kernel_rfl) (by kernel_rfl) (fun _ _ _ h => h) (Or.inl ⟨by rfl, ?yb35⟩) hS ?_
          case yb35 =>
            intro w hSw
            obtain ⟨j0, j1⟩ := hSw
            go_simp; all_goals (with_reducible rfl)
          simp only [Act.put, List.setIfInBounds_toArray, List.set_cons_zero, List.set_cons_succ]
          refine wpAnyH_take (i := 4) (oi := { dst := some 53, op := Op.move (Operand.tmp 5), type := 3, pos := "sha256.go:111", after := #[{ on := 8, ground := Ground.gcOnly Departure.lateStores }], guard := none }) (v := ?vb36) rfl (by kernel_rfl) (by kernel_rfl) (by kernel_rfl) (fun _ _ _ h => h) (Or.inl ⟨by rfl, ?yb36⟩) hS ?_
          case yb36 =>
            intro w hSw
            go_simp; all_goals (with_reducible rfl)
          simp only [Act.put, List.setIfInBounds_toArray, List.set_cons_zero, List.set_cons_succ]
          refine wpAnyH_take (i := 5) (oi := { dst := some 54, op := Op.binOp BinOp.sub 3 (Operand.tmp 53) (Operand.const (Value.int IntKind.i64 2)) 3, type := 3, pos := "sha256.go:111", after := #[{ on := 4, ground := Ground.data }, { on := 8, ground := Ground.gcOnly Departure.lateStores }], guard := none }) (v := ?vb37) rfl (by kernel_rfl) (by kernel_rfl) (by kernel_rfl) (fun _ _ _ h => h) (Or.inl ⟨by rfl, ?yb37⟩) hS ?_
          case yb37 =>
            intro w hSw
            have q := IntWalk.i64_in ((k : Int) - 2) (by omega)
            go_simp; all_goals (with_reducible rfl)
          simp only [Act.put, List.setIfInBounds_toArray, List.set_cons_zero, List.set_cons_succ]
          refine wpAnyH_take (i := 6) (oi := { dst := some 55, op := Op.indexAddr 91 (Operand.tmp 3) (Operand.tmp 54), type := 0, pos := "sha256.go:111", after := #[{ on := 5, ground := Ground.data }, { on := 8, ground := Ground.gcOnly Departure.lateStores }], guard := none }) (v := ?vb38) rfl (by kernel_rfl) (by kernel_rfl) (by kernel_rfl) (fun _ _ _ h => h) (Or.inl ⟨by rfl, ?yb38⟩) hS ?_
          case yb38 =>
            intro w hSw
            have q0 : (0 : Int) ≤ (k : Int) - 2 := by omega
            have q1 : (k : Int) - 2 < 64 := by omega
            have q2 : ((k : Int) - 2).toNat = k - 2 := by omega
            have q3 : (2 : Int) ≤ (k : Int) := by omega
            go_simp; all_goals (with_reducible rfl)
          simp only [Act.put, List.setIfInBounds_toArray, List.set_cons_zero, List.set_cons_succ]
          refine wpAnyH_take (i := 7) (oi := { dst := some 56, op := Op.load 53 (Operand.tmp 55), type := 53, pos := "sha256.go:111", after := #[{ on := 6, ground := Ground.data }, { on := 8, ground := Ground.gcOnly Departure.lateStores }], guard := none }) (v := ?vb39) rfl (by kernel_rfl) (by kernel_rfl) (by kernel_rfl) (fun _ _ _ h => h) (Or.inl ⟨by rfl, ?yb39⟩) hS ?_
          case yb39 =>
            intro w hSw
            obtain ⟨j0, j1⟩ := hSw
            go_simp; all_goals (with_reducible rfl)
          simp only [Act.put, List.setIfInBounds_toArray, List.set_cons_zero, List.set_cons_succ]
          refine wpAnyH_take (i := 8) (oi := { dst := some 6, op := Op.assign (Operand.tmp 52), type := 53, pos := "sha256.go:111", after := #[{ on := 3, ground := Ground.data }, { on := 0, ground := Ground.phase }, { on := 1, ground := Ground.phase }, { on := 2, ground := Ground.phase }, { on := 3, ground := Ground.phase }, { on := 4, ground := Ground.textOnly Departure.lateStores }, { on := 5, ground := Ground.textOnly Departure.lateStores }, { on := 6, ground := Ground.textOnly Departure.lateStores }, { on := 7, ground := Ground.textOnly Departure.lateStores }], guard := none }) (v := ?vb40) rfl (by kernel_rfl) (by kernel_rfl) (by kernel_rfl) (fun _ _ _ h => h) (Or.inl ⟨by rfl, ?yb40⟩) hS ?_
          case yb40 =>
            intro w hSw
            go_simp; all_goals (with_reducible rfl)
          simp only [Act.put, List.setIfInBounds_toArray, List.set_cons_zero, List.set_cons_succ]
          refine wpAnyH_take (i := 9) (oi := { dst := some 7, op := Op.assign (Operand.tmp 56), type := 53, pos := "sha256.go:111", after := #[{ on := 7, ground := Ground.data }, { on := 8, ground := Ground.chain }, { on := 0, ground := Ground.phase }, { on := 1, ground := Ground.phase }, { on := 2, ground := Ground.phase }, { on := 3, ground := Ground.phase }, { on := 4, ground := Ground.phase }, { on := 5, ground := Ground.phase }, { on := 6, ground := Ground.phase }, { on := 7, ground := Ground.phase }, { on := 8, ground := Ground.phase }], guard := none }) (v := ?vb41) rfl (by kernel_rfl) (by kernel_rfl) (by kernel_rfl) (fun _ _ _ h => h) (Or.inl ⟨by rfl, ?yb41⟩) hS ?_
          case yb41 =>
            intro w hSw
            go_simp; all_goals (with_reducible rfl)
          simp only [Act.put, List.setIfInBounds_toArray, List.set_cons_zero, List.set_cons_succ]
          refine wpAnyH_done (by kernel_rfl) ?_ _
          go_wp2_with fail
          refine (right_7 x _).mono ?_
          rintro e w' ⟨rfl, rfl⟩
          go_wp2_with fail
          refine (right_18 x _).mono ?_
          rintro e w' ⟨rfl, rfl⟩
          go_wp2_with fail
          refine (right_17 y _).mono ?_
          rintro e w' ⟨rfl, rfl⟩
          go_wp2_with fail
          refine (right_19 y _).mono ?_
          rintro e w' ⟨rfl, rfl⟩
          go_wp2_with fail
          rw [HS0.out, HS1.out]
          refine wp_region_held_drew (S := fun w' => w'.cell? ⟨g2, k - 16, none⟩ = some (U32 a) ∧ w'.cell? ⟨g2, k - 7, none⟩ = some (U32 b)) (by kernel_rfl) ⟨k3, k4⟩ (fun hS => ?_)
          refine wpAnyH_take (i := 0) (oi := { dst := some 73, op := Op.move (Operand.tmp 5), type := 3, pos := "sha256.go:114", after := #[], guard := none }) (v := ?vc42) rfl (by kernel_rfl) (by kernel_rfl) (by kernel_rfl) (fun _ _ _ h => h) (Or.inl ⟨by rfl, ?yc42⟩) hS ?_
          case yc42 =>
            intro w hSw
            go_simp; all_goals (with_reducible rfl)
          simp only [Act.put, List.setIfInBounds_toArray, List.set_cons_zero, List.set_cons_succ]
          refine wpAnyH_take (i := 1) (oi := { dst := some 74, op := Op.move (Operand.tmp 5), type := 3, pos := "sha256.go:114", after := #[], guard := none }) (v := ?vc43) rfl (by kernel_rfl) (by kernel_rfl) (by kernel_rfl) (fun _ _ _ h => h) (Or.inl ⟨by rfl, ?yc43⟩) hS ?_
          case yc43 =>
            intro w hSw
            go_simp; all_goals (with_reducible rfl)
          simp only [Act.put, List.setIfInBounds_toArray, List.set_cons_zero, List.set_cons_succ]
          refine wpAnyH_take (i := 2) (oi := { dst := some 75, op := Op.binOp BinOp.sub 3 (Operand.tmp 74) (Operand.const (Value.int IntKind.i64 16)) 3, type := 3, pos := "sha256.go:114", after := #[{ on := 1, ground := Ground.data }], guard := none }) (v := ?vc44) rfl (by kernel_rfl) (by kernel_rfl) (by kernel_rfl) (fun _ _ _ h => h) (Or.inl ⟨by rfl, ?yc44⟩) hS ?_
          case yc44 =>
            intro w hSw
            have q := IntWalk.i64_in ((k : Int) - 16) (by omega)
            go_simp; all_goals (with_reducible rfl)
          simp only [Act.put, List.setIfInBounds_toArray, List.set_cons_zero, List.set_cons_succ]
          refine wpAnyH_take (i := 3) (oi := { dst := some 76, op := Op.indexAddr 91 (Operand.tmp 3) (Operand.tmp 75), type := 0, pos := "sha256.go:114", after := #[{ on := 2, ground := Ground.data }], guard := none }) (v := ?vc45) rfl (by kernel_rfl) (by kernel_rfl) (by kernel_rfl) (fun _ _ _ h => h) (Or.inl ⟨by rfl, ?yc45⟩) hS ?_
          case yc45 =>
            intro w hSw
            have q0 : (0 : Int) ≤ (k : Int) - 16 := by omega
            have q1 : (k : Int) - 16 < 64 := by omega
            have q2 : ((k : Int) - 16).toNat = k - 16 := by omega
            have q3 : (16 : Int) ≤ (k : Int) := by omega
            go_simp; all_goals (with_reducible rfl)
          simp only [Act.put, List.setIfInBounds_toArray, List.set_cons_zero, List.set_cons_succ]
          refine wpAnyH_take (i := 4) (oi := { dst := some 77, op := Op.load 53 (Operand.tmp 76), type := 53, pos := "sha256.go:114", after := #[{ on := 3, ground := Ground.data }], guard := none }) (v := ?vc46) rfl (by kernel_rfl) (by kernel_rfl) (by kernel_rfl) (fun _ _ _ h => h) (Or.inl ⟨by rfl, ?yc46⟩) hS ?_
          case yc46 =>
            intro w hSw
            obtain ⟨j0, j1⟩ := hSw
            go_simp; all_goals (with_reducible rfl)
          simp only [Act.put, List.setIfInBounds_toArray, List.set_cons_zero, List.set_cons_succ]
          refine wpAnyH_take (i := 5) (oi := { dst := some 78, op := Op.move (Operand.tmp 8), type := 53, pos := "sha256.go:114", after := #[], guard := none }) (v := ?vc47) rfl (by kernel_rfl) (by kernel_rfl) (by kernel_rfl) (fun _ _ _ h => h) (Or.inl ⟨by rfl, ?yc47⟩) hS ?_
          case yc47 =>
            intro w hSw
            go_simp; all_goals (with_reducible rfl)
          simp only [Act.put, List.setIfInBounds_toArray, List.set_cons_zero, List.set_cons_succ]
          refine wpAnyH_take (i := 6) (oi := { dst := some 79, op := Op.binOp BinOp.add 53 (Operand.tmp 77) (Operand.tmp 78) 53, type := 53, pos := "sha256.go:114", after := #[{ on := 4, ground := Ground.data }, { on := 5, ground := Ground.data }], guard := none }) (v := ?vc48) rfl (by kernel_rfl) (by kernel_rfl) (by kernel_rfl) (fun _ _ _ h => h) (Or.inl ⟨by rfl, ?yc48⟩) hS ?_
          case yc48 =>
            intro w hSw
            go_simp; all_goals (with_reducible rfl)
          simp only [Act.put, List.setIfInBounds_toArray, List.set_cons_zero, List.set_cons_succ]
          rw [HN1.out]
          refine wpAnyH_take (i := 7) (oi := { dst := some 80, op := Op.move (Operand.tmp 5), type := 3, pos := "sha256.go:114", after := #[], guard := none }) (v := ?vc49) rfl (by kernel_rfl) (by kernel_rfl) (by kernel_rfl) (fun _ _ _ h => h) (Or.inl ⟨by rfl, ?yc49⟩) hS ?_
          case yc49 =>
            intro w hSw
            go_simp; all_goals (with_reducible rfl)
          simp only [Act.put, List.setIfInBounds_toArray, List.set_cons_zero, List.set_cons_succ]
          refine wpAnyH_take (i := 8) (oi := { dst := some 81, op := Op.binOp BinOp.sub 3 (Operand.tmp 80) (Operand.const (Value.int IntKind.i64 7)) 3, type := 3, pos := "sha256.go:114", after := #[{ on := 7, ground := Ground.data }], guard := none }) (v := ?vc50) rfl (by kernel_rfl) (by kernel_rfl) (by kernel_rfl) (fun _ _ _ h => h) (Or.inl ⟨by rfl, ?yc50⟩) hS ?_
          case yc50 =>
            intro w hSw
            have q := IntWalk.i64_in ((k : Int) - 7) (by omega)
            go_simp; all_goals (with_reducible rfl)
          simp only [Act.put, List.setIfInBounds_toArray, List.set_cons_zero, List.set_cons_succ]
          refine wpAnyH_take (i := 9) (oi := { dst := some 82, op := Op.indexAddr 91 (Operand.tmp 3) (Operand.tmp 81), type := 0, pos := "sha256.go:114", after := #[{ on := 8, ground := Ground.data }], guard := none }) (v := ?vc51) rfl (by kernel_rfl) (by kernel_rfl) (by kernel_rfl) (fun _ _ _ h => h) (Or.inl ⟨by rfl, ?yc51⟩) hS ?_
          case yc51 =>
            intro w hSw
            have q0 : (0 : Int) ≤ (k : Int) - 7 := by omega
            have q1 : (k : Int) - 7 < 64 := by omega
            have q2 : ((k : Int) - 7).toNat = k - 7 := by omega
            have q3 : (7 : Int) ≤ (k : Int) := by omega
            go_simp; all_goals (with_reducible rfl)
          simp only [Act.put, List.setIfInBounds_toArray, List.set_cons_zero, List.set_cons_succ]
          refine wpAnyH_take (i := 10) (oi := { dst := some 83, op := Op.load 53 (Operand.tmp 82), type := 53, pos := "sha256.go:114", after := #[{ on := 9, ground := Ground.data }], guard := none }) (v := ?vc52) rfl (by kernel_rfl) (by kernel_rfl) (by kernel_rfl) (fun _ _ _ h => h) (Or.inl ⟨by rfl, ?yc52⟩) hS ?_
          case yc52 =>
            intro w hSw
            obtain ⟨j0, j1⟩ := hSw
            go_simp; all_goals (with_reducible rfl)
          simp only [Act.put, List.setIfInBounds_toArray, List.set_cons_zero, List.set_cons_succ]
          refine wpAnyH_take (i := 11) (oi := { dst := some 84, op := Op.binOp BinOp.add 53 (Operand.tmp 79) (Operand.tmp 83) 53, type := 53, pos := "sha256.go:114", after := #[{ on := 6, ground := Ground.data }, { on := 10, ground := Ground.data }], guard := none }) (v := ?vc53) rfl (by kernel_rfl) (by kernel_rfl) (by kernel_rfl) (fun _ _ _ h => h) (Or.inl ⟨by rfl, ?yc53⟩) hS ?_
          case yc53 =>
            intro w hSw
            go_simp; all_goals (with_reducible rfl)
          simp only [Act.put, List.setIfInBounds_toArray, List.set_cons_zero, List.set_cons_succ]
          rw [HN2.out]
          refine wpAnyH_take (i := 12) (oi := { dst := some 85, op := Op.move (Operand.tmp 9), type := 53, pos := "sha256.go:114", after := #[], guard := none }) (v := ?vc54) rfl (by kernel_rfl) (by kernel_rfl) (by kernel_rfl) (fun _ _ _ h => h) (Or.inl ⟨by rfl, ?yc54⟩) hS ?_
          case yc54 =>
            intro w hSw
            go_simp; all_goals (with_reducible rfl)
          simp only [Act.put, List.setIfInBounds_toArray, List.set_cons_zero, List.set_cons_succ]
          refine wpAnyH_take (i := 13) (oi := { dst := some 86, op := Op.binOp BinOp.add 53 (Operand.tmp 84) (Operand.tmp 85) 53, type := 53, pos := "sha256.go:114", after := #[{ on := 11, ground := Ground.data }, { on := 12, ground := Ground.data }], guard := none }) (v := ?vc55) rfl (by kernel_rfl) (by kernel_rfl) (by kernel_rfl) (fun _ _ _ h => h) (Or.inl ⟨by rfl, ?yc55⟩) hS ?_
          case yc55 =>
            intro w hSw
            go_simp; all_goals (with_reducible rfl)
          simp only [Act.put, List.setIfInBounds_toArray, List.set_cons_zero, List.set_cons_succ]
          rw [HN3.out]
          refine wpAnyH_take (i := 14) (oi := { dst := some 87, op := Op.indexAddr 91 (Operand.tmp 3) (Operand.tmp 73), type := 0, pos := "sha256.go:114", after := #[{ on := 0, ground := Ground.data }, { on := 0, ground := Ground.phase }, { on := 1, ground := Ground.phase }, { on := 2, ground := Ground.phase }, { on := 3, ground := Ground.phase }, { on := 4, ground := Ground.phase }, { on := 5, ground := Ground.phase }, { on := 6, ground := Ground.phase }, { on := 7, ground := Ground.phase }, { on := 8, ground := Ground.phase }, { on := 9, ground := Ground.phase }, { on := 10, ground := Ground.phase }, { on := 11, ground := Ground.phase }, { on := 12, ground := Ground.phase }, { on := 13, ground := Ground.phase }], guard := none }) (v := ?vc56) rfl (by kernel_rfl) (by kernel_rfl) (by kernel_rfl) (fun _ _ _ h => h) (Or.inl ⟨by rfl, ?yc56⟩) hS ?_
          case yc56 =>
            intro w hSw
            have q0 : (0 : Int) ≤ (k : Int) := by omega
            have q1 : (k : Int) < 64 := by omega
            go_simp; all_goals (with_reducible rfl)
          simp only [Act.put, List.setIfInBounds_toArray, List.set_cons_zero, List.set_cons_succ]
          refine wpAnyH_ready (rs := [15]) (by kernel_rfl) (by simp) ?_
          refine (AllReadyH.cons (o := { dst := none, op := Op.store 53 (Operand.tmp 87) (Operand.tmp 86), type := 0, pos := "sha256.go:114", after := #[{ on := 14, ground := Ground.data }, { on := 13, ground := Ground.data }, { on := 0, ground := Ground.phase }, { on := 1, ground := Ground.phase }, { on := 2, ground := Ground.phase }, { on := 3, ground := Ground.phase }, { on := 4, ground := Ground.phase }, { on := 5, ground := Ground.phase }, { on := 6, ground := Ground.phase }, { on := 7, ground := Ground.phase }, { on := 8, ground := Ground.phase }, { on := 9, ground := Ground.phase }, { on := 10, ground := Ground.phase }, { on := 11, ground := Ground.phase }, { on := 12, ground := Ground.phase }, { on := 13, ground := Ground.phase }], guard := none }) rfl (fun K hK => ?_) AllReadyH.nil)
          go_simp
          refine hK.out _ _ HAFT.out (fun _ => ?_)
          clear hK K
          refine wpAnyH_done (by kernel_rfl) ?_ _
          go_wp2_with fail
          go_roundw
          case rel =>
            refine ⟨k + 1, by omega, by omega, by go_num, r0.setOther (by simp; omega) _, ?_, (hb.setCell (by simp; omega) _).drew.drew⟩
            exact (r1.set k _).congr fun i _ => by rw [← cellW_set blk k i, HNX.out]
          case measure => simp [intOf]; omega
        · obtain rfl : k = 64 := by omega
          obtain ⟨cs, hcs, hn, hv⟩ := r1
          obtain ⟨os, hos, hno, hvo⟩ := r0
          obtain rfl := words_eq blk hn hv
          go_wp2_with (first | (refine wpList_load_row rfl 91 _ rfl g2 rfl 91 (words blk) _ _ hcs Tryd.underlying91 rfl ?c1 ?_) | (refine wpList_store_row rfl 91 _ _ rfl g1 (words blk) rfl rfl 91 os hos ?c2 ?c3 ?c4 ?_))
          case c1 => rw [zsizeW, hn]
          case c2 => rw [zsizeW, hn]
          case c3 => rw [hno, hn]
          case c4 => exact words_one blk
          refine bodyPost_ret (results_cell_row rfl _ _ g1 91 (words blk) _ _ rfl (setRow_heap _ _ _ _ _ _ hos) Tryd.underlying91 rfl (by rw [zsizeW, hn])) rfl ?_
          exact ⟨rfl, below_setRow hb (by omega) _⟩
end Go.Proofs.YtibkhajhmncgkaaDoor
