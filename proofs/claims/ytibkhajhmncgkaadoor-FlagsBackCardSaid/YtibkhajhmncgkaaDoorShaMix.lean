/- The walk over sha256.mix. -/
import Derived.Test.YtibkhajhmncgkaaDoorShaRound
import Derived.Deep.RegionHeld3
namespace Go.Proofs.YtibkhajhmncgkaaDoor
open Go.RowKit

theorem below_one (w : World) (o : Obj) : Below w.heap.size w (w.alloc o) := (Below.refl _ _).alloc (Nat.le_refl _) _
theorem add32m (a b : BitVec 32) : ((a.toNat : Int) + (b.toNat : Int)) % 4294967296 = ((a + b).toNat : Int) := by
  rw [BitVec.toNat_add]; omega
theorem row8_new (w : World) : (w.alloc (.cells zero8 82)).rowIs w.heap.size 82 8 (fun _ => .int .u32 0) := by
  have h := World.rowIs_alloc w zero8 82 (fun _ => .int .u32 0) (fun i hi => by
    unfold zero8 at hi ⊢
    rw [Array.getElem?_replicate, if_pos (by simpa using hi)])
  have e : zero8.size = 8 := by simp [zero8]
  rwa [e] at h

set_option maxRecDepth 100000 in
set_option maxHeartbeats 4000000 in
theorem mix_any (ws : R8) (blk : List UInt8) (hblk : blk.length = 64) (w : World) (hK : ∀ i, i < 64 → w.cell? ⟨2, i, none⟩ = some (U32 (Kc i))) (h1 : 2 < w.heap.size) :
    Calls Tryd.prog 59 #[.agg ws.agg, .agg (blk.map B8).toArray] w fun e w' => e = .returned (.agg (mixS ws blk).agg) ∧ Below w.heap.size w w' := by
  have hz64 := (zero_of_info infoW).1
  have hz8 := (zero_of_info info8W).1
  have HK := Lib.hid hK
  have HSP := Lib.hid (spread_any blk hblk)
  have hbs : (blk.map B8).toArray.size = 64 := by simpa using hblk
  have HWI := Lib.hid (words_index blk)
  have HONE := Lib.hid (words_one blk)
  have HWS := Lib.hid (words_size blk)
  have HRN : Hid (∀ n r, rounds blk (n + 1) r = roundOf (Kc n) (wd blk n) (rounds blk n r)) := Lib.hid (fun _ _ => rfl)
  have HMX : Hid (mixS ws blk = ws.add (rounds blk 64 ws)) := Lib.hid rfl
  generalize hbl : (blk.map B8).toArray = bl at *
  have HBS := Lib.hid hbs
  clear hbs hbl hK hblk
  generalize words blk = W at *
  go_enter Tryd.func59, Tryd.ntmps59
  have eA : (w.alloc (.cells ws.agg 82)).heap.size = w.heap.size + 1 := by simp
  have eB : ((w.alloc (.cells ws.agg 82)).alloc (.cells bl 83)).heap.size = w.heap.size + 1 + 1 := by simp
  have hbA := below_one w (.cells ws.agg 82)
  have hbB := below_one (w.alloc (.cells ws.agg 82)) (.cells bl 83)
  have hbC := below_one ((w.alloc (.cells ws.agg 82)).alloc (.cells bl 83)) (.cells zero8 82)
  have hrA : (((w.alloc (.cells ws.agg 82)).alloc (.cells bl 83)).alloc (.cells zero8 82)).rowIs w.heap.size 82 8 (fun i => U32 (ws.get i)) :=
    ((World.rowIs_alloc w ws.agg 82 (fun i => U32 (ws.get i)) (fun i hi => ws.agg_at i hi)).alloc _).alloc _
  have hrC : (((w.alloc (.cells ws.agg 82)).alloc (.cells bl 83)).alloc (.cells zero8 82)).rowIs (w.heap.size + 1 + 1) 82 8 (fun _ => .int .u32 0) := by
    have h := row8_new ((w.alloc (.cells ws.agg 82)).alloc (.cells bl 83))
    rw [eB] at h; exact h
  have hcB : (((w.alloc (.cells ws.agg 82)).alloc (.cells bl 83)).alloc (.cells zero8 82)).heap[w.heap.size + 1]? = some (.cells bl 83 (0, 0)) := by
    rw [hbC.block _ (by simp), ← eA]; exact heap_alloc_last _ _
  have hb3 : Below w.heap.size w (((w.alloc (.cells ws.agg 82)).alloc (.cells bl 83)).alloc (.cells zero8 82)) := (hbA.trans (hbB.mono hbA.size)).trans (hbC.mono (by simp; omega))
  have eC : (((w.alloc (.cells ws.agg 82)).alloc (.cells bl 83)).alloc (.cells zero8 82)).heap.size = w.heap.size + 1 + 1 + 1 := by simp
  have HAA : Hid (∀ i, i < 8 → ws.agg[i]? = some (U32 (ws.get i))) := Lib.hid ws.agg_at
  clear eA eB hbA hbB hbC
  go_wp2_with (refine wpList_load_row rfl 83 _ rfl (w.heap.size + 1) rfl 83 bl _ _ hcB Tryd.underlying83 rfl (by rw [zsizeB, HBS.out]) ?_)
  generalize ((w.alloc (.cells ws.agg 82)).alloc (.cells bl 83)).alloc (.cells zero8 82) = w3 at *
  refine (HSP.out w3).mono ?_
  rintro e w4 ⟨rfl, hb4⟩
  have hrA4 := hrA.of_block (hb4.block _ (by omega))
  have hrC4 := hrC.of_block (hb4.block _ (by omega))
  have g4 := hb3.trans (hb4.mono hb3.size)
  have hs4 := hb4.size
  have hlast := heap_alloc_last w4 (.cells zero64 91)
  clear hrA hrC hcB hb4 hb3
  go_wp2_with (refine wpList_store_row rfl 91 _ _ rfl w4.heap.size W rfl rfl 91 zero64 hlast (by rw [zsizeW, HWS.out]) (by rw [HWS.out]; simp [zero64]) HONE.out ?_)
  rw [World.setRow_alloc_new]
  have hlast2 := heap_alloc_last w4 (.cells W 91)
  have hb5 := below_one w4 (.cells W 91)
  have hrA5 := hrA4.alloc (.cells W 91)
  have hrC5 := hrC4.alloc (.cells W 91)
  have g5 := g4.trans (hb5.mono g4.size)
  clear hlast hb5 hrA4 hrC4 g4
  generalize w4.alloc (.cells W 91) = w5 at *
  have k0 : w5.drew.cell? ⟨w.heap.size, 0, none⟩ = some (U32 ws.a) := hrA5.cell (i := 0) (by omega)
  have k1 : w5.drew.cell? ⟨w.heap.size, 1, none⟩ = some (U32 ws.b) := hrA5.cell (i := 1) (by omega)
  have k2 : w5.drew.cell? ⟨w.heap.size, 2, none⟩ = some (U32 ws.c) := hrA5.cell (i := 2) (by omega)
  have k3 : w5.drew.cell? ⟨w.heap.size, 3, none⟩ = some (U32 ws.d) := hrA5.cell (i := 3) (by omega)
  refine wp_region_held_drew (S := fun w' => w'.cell? ⟨w.heap.size, 0, none⟩ = some (U32 ws.a) ∧ w'.cell? ⟨w.heap.size, 1, none⟩ = some (U32 ws.b) ∧ w'.cell? ⟨w.heap.size, 2, none⟩ = some (U32 ws.c) ∧ w'.cell? ⟨w.heap.size, 3, none⟩ = some (U32 ws.d)) (by kernel_rfl) ⟨k0, k1, k2, k3⟩ (fun hS => ?_)
  refine wpAnyH_take (i := 0) (oi := { dst := some 22, op := Op.indexAddr 82 (Operand.tmp 2) (Operand.const (Value.int IntKind.i64 0)), type := 0, pos := "sha256.go:90", after := #[], guard := none }) (v := ?va1) rfl (by kernel_rfl) (by kernel_rfl) (by kernel_rfl) (fun _ _ _ h => h) (Or.inl ⟨by rfl, ?ya1⟩) hS ?_
  case ya1 =>
    intro w hSw
    go_simp; all_goals (with_reducible rfl)
  simp only [Act.put, List.setIfInBounds_toArray, List.set_cons_zero, List.set_cons_succ]
  refine wpAnyH_take (i := 1) (oi := { dst := some 23, op := Op.load 53 (Operand.tmp 22), type := 53, pos := "sha256.go:90", after := #[{ on := 0, ground := Ground.data }], guard := none }) (v := ?va2) rfl (by kernel_rfl) (by kernel_rfl) (by kernel_rfl) (fun _ _ _ h => h) (Or.inl ⟨by rfl, ?ya2⟩) hS ?_
  case ya2 =>
    intro w hSw
    obtain ⟨j0, j1, j2, j3⟩ := hSw
    go_simp; all_goals (with_reducible rfl)
  simp only [Act.put, List.setIfInBounds_toArray, List.set_cons_zero, List.set_cons_succ]
  refine wpAnyH_take (i := 2) (oi := { dst := some 24, op := Op.indexAddr 82 (Operand.tmp 2) (Operand.const (Value.int IntKind.i64 1)), type := 0, pos := "sha256.go:90", after := #[{ on := 8, ground := Ground.gcOnly Departure.lateStores }], guard := none }) (v := ?va3) rfl (by kernel_rfl) (by kernel_rfl) (by kernel_rfl) (fun _ _ _ h => h) (Or.inl ⟨by rfl, ?ya3⟩) hS ?_
  case ya3 =>
    intro w hSw
    go_simp; all_goals (with_reducible rfl)
  simp only [Act.put, List.setIfInBounds_toArray, List.set_cons_zero, List.set_cons_succ]
  refine wpAnyH_take (i := 3) (oi := { dst := some 25, op := Op.load 53 (Operand.tmp 24), type := 53, pos := "sha256.go:90", after := #[{ on := 2, ground := Ground.data }, { on := 8, ground := Ground.gcOnly Departure.lateStores }], guard := none }) (v := ?va4) rfl (by kernel_rfl) (by kernel_rfl) (by kernel_rfl) (fun _ _ _ h => h) (Or.inl ⟨by rfl, ?ya4⟩) hS ?_
  case ya4 =>
    intro w hSw
    obtain ⟨j0, j1, j2, j3⟩ := hSw
    go_simp; all_goals (with_reducible rfl)
  simp only [Act.put, List.setIfInBounds_toArray, List.set_cons_zero, List.set_cons_succ]
  refine wpAnyH_take (i := 4) (oi := { dst := some 26, op := Op.indexAddr 82 (Operand.tmp 2) (Operand.const (Value.int IntKind.i64 2)), type := 0, pos := "sha256.go:90", after := #[{ on := 9, ground := Ground.gcOnly Departure.lateStores }], guard := none }) (v := ?va5) rfl (by kernel_rfl) (by kernel_rfl) (by kernel_rfl) (fun _ _ _ h => h) (Or.inl ⟨by rfl, ?ya5⟩) hS ?_
  case ya5 =>
    intro w hSw
    go_simp; all_goals (with_reducible rfl)
  simp only [Act.put, List.setIfInBounds_toArray, List.set_cons_zero, List.set_cons_succ]
  refine wpAnyH_take (i := 5) (oi := { dst := some 27, op := Op.load 53 (Operand.tmp 26), type := 53, pos := "sha256.go:90", after := #[{ on := 4, ground := Ground.data }, { on := 9, ground := Ground.gcOnly Departure.lateStores }], guard := none }) (v := ?va6) rfl (by kernel_rfl) (by kernel_rfl) (by kernel_rfl) (fun _ _ _ h => h) (Or.inl ⟨by rfl, ?ya6⟩) hS ?_
  case ya6 =>
    intro w hSw
    obtain ⟨j0, j1, j2, j3⟩ := hSw
    go_simp; all_goals (with_reducible rfl)
  simp only [Act.put, List.setIfInBounds_toArray, List.set_cons_zero, List.set_cons_succ]
  refine wpAnyH_take (i := 6) (oi := { dst := some 28, op := Op.indexAddr 82 (Operand.tmp 2) (Operand.const (Value.int IntKind.i64 3)), type := 0, pos := "sha256.go:90", after := #[{ on := 10, ground := Ground.gcOnly Departure.lateStores }], guard := none }) (v := ?va7) rfl (by kernel_rfl) (by kernel_rfl) (by kernel_rfl) (fun _ _ _ h => h) (Or.inl ⟨by rfl, ?ya7⟩) hS ?_
  case ya7 =>
    intro w hSw
    go_simp; all_goals (with_reducible rfl)
  simp only [Act.put, List.setIfInBounds_toArray, List.set_cons_zero, List.set_cons_succ]
  refine wpAnyH_take (i := 7) (oi := { dst := some 29, op := Op.load 53 (Operand.tmp 28), type := 53, pos := "sha256.go:90", after := #[{ on := 6, ground := Ground.data }, { on := 10, ground := Ground.gcOnly Departure.lateStores }], guard := none }) (v := ?va8) rfl (by kernel_rfl) (by kernel_rfl) (by kernel_rfl) (fun _ _ _ h => h) (Or.inl ⟨by rfl, ?ya8⟩) hS ?_
  case ya8 =>
    intro w hSw
    obtain ⟨j0, j1, j2, j3⟩ := hSw
    go_simp; all_goals (with_reducible rfl)
  simp only [Act.put, List.setIfInBounds_toArray, List.set_cons_zero, List.set_cons_succ]
  refine wpAnyH_take (i := 8) (oi := { dst := some 6, op := Op.assign (Operand.tmp 23), type := 53, pos := "sha256.go:90", after := #[{ on := 1, ground := Ground.data }, { on := 0, ground := Ground.phase }, { on := 1, ground := Ground.phase }, { on := 2, ground := Ground.textOnly Departure.lateStores }, { on := 3, ground := Ground.textOnly Departure.lateStores }, { on := 4, ground := Ground.textOnly Departure.lateStores }, { on := 5, ground := Ground.textOnly Departure.lateStores }, { on := 6, ground := Ground.textOnly Departure.lateStores }, { on := 7, ground := Ground.textOnly Departure.lateStores }], guard := none }) (v := ?va9) rfl (by kernel_rfl) (by kernel_rfl) (by kernel_rfl) (fun _ _ _ h => h) (Or.inl ⟨by rfl, ?ya9⟩) hS ?_
  case ya9 =>
    intro w hSw
    go_simp; all_goals (with_reducible rfl)
  simp only [Act.put, List.setIfInBounds_toArray, List.set_cons_zero, List.set_cons_succ]
  refine wpAnyH_take (i := 9) (oi := { dst := some 7, op := Op.assign (Operand.tmp 25), type := 53, pos := "sha256.go:90", after := #[{ on := 3, ground := Ground.data }, { on := 8, ground := Ground.chain }, { on := 0, ground := Ground.phase }, { on := 1, ground := Ground.phase }, { on := 2, ground := Ground.phase }, { on := 3, ground := Ground.phase }, { on := 4, ground := Ground.textOnly Departure.lateStores }, { on := 5, ground := Ground.textOnly Departure.lateStores }, { on := 6, ground := Ground.textOnly Departure.lateStores }, { on := 7, ground := Ground.textOnly Departure.lateStores }, { on := 8, ground := Ground.phase }], guard := none }) (v := ?va10) rfl (by kernel_rfl) (by kernel_rfl) (by kernel_rfl) (fun _ _ _ h => h) (Or.inl ⟨by rfl, ?ya10⟩) hS ?_
  case ya10 =>
    intro w hSw
    go_simp; all_goals (with_reducible rfl)
  simp only [Act.put, List.setIfInBounds_toArray, List.set_cons_zero, List.set_cons_succ]
  refine wpAnyH_take (i := 10) (oi := { dst := some 8, op := Op.assign (Operand.tmp 27), type := 53, pos := "sha256.go:90", after := #[{ on := 5, ground := Ground.data }, { on := 9, ground := Ground.chain }, { on := 0, ground := Ground.phase }, { on := 1, ground := Ground.phase }, { on := 2, ground := Ground.phase }, { on := 3, ground := Ground.phase }, { on := 4, ground := Ground.phase }, { on := 5, ground := Ground.phase }, { on := 6, ground := Ground.textOnly Departure.lateStores }, { on := 7, ground := Ground.textOnly Departure.lateStores }, { on := 8, ground := Ground.phase }, { on := 9, ground := Ground.phase }], guard := none }) (v := ?va11) rfl (by kernel_rfl) (by kernel_rfl) (by kernel_rfl) (fun _ _ _ h => h) (Or.inl ⟨by rfl, ?ya11⟩) hS ?_
  case ya11 =>
    intro w hSw
    go_simp; all_goals (with_reducible rfl)
  simp only [Act.put, List.setIfInBounds_toArray, List.set_cons_zero, List.set_cons_succ]
  refine wpAnyH_take (i := 11) (oi := { dst := some 9, op := Op.assign (Operand.tmp 29), type := 53, pos := "sha256.go:90", after := #[{ on := 7, ground := Ground.data }, { on := 10, ground := Ground.chain }, { on := 0, ground := Ground.phase }, { on := 1, ground := Ground.phase }, { on := 2, ground := Ground.phase }, { on := 3, ground := Ground.phase }, { on := 4, ground := Ground.phase }, { on := 5, ground := Ground.phase }, { on := 6, ground := Ground.phase }, { on := 7, ground := Ground.phase }, { on := 8, ground := Ground.phase }, { on := 9, ground := Ground.phase }, { on := 10, ground := Ground.phase }], guard := none }) (v := ?va12) rfl (by kernel_rfl) (by kernel_rfl) (by kernel_rfl) (fun _ _ _ h => h) (Or.inl ⟨by rfl, ?ya12⟩) hS ?_
  case ya12 =>
    intro w hSw
    go_simp; all_goals (with_reducible rfl)
  simp only [Act.put, List.setIfInBounds_toArray, List.set_cons_zero, List.set_cons_succ]
  refine wpAnyH_done (by kernel_rfl) ?_ _
  have k4 : w5.drew.drew.cell? ⟨w.heap.size, 4, none⟩ = some (U32 ws.e) := hrA5.cell (i := 4) (by omega)
  have k5 : w5.drew.drew.cell? ⟨w.heap.size, 5, none⟩ = some (U32 ws.f) := hrA5.cell (i := 5) (by omega)
  have k6 : w5.drew.drew.cell? ⟨w.heap.size, 6, none⟩ = some (U32 ws.g) := hrA5.cell (i := 6) (by omega)
  have k7 : w5.drew.drew.cell? ⟨w.heap.size, 7, none⟩ = some (U32 ws.h) := hrA5.cell (i := 7) (by omega)
  clear k0 k1 k2 k3 hS
  go_wp2_with fail
  refine wp_region_held_drew (S := fun w' => w'.cell? ⟨w.heap.size, 4, none⟩ = some (U32 ws.e) ∧ w'.cell? ⟨w.heap.size, 5, none⟩ = some (U32 ws.f) ∧ w'.cell? ⟨w.heap.size, 6, none⟩ = some (U32 ws.g) ∧ w'.cell? ⟨w.heap.size, 7, none⟩ = some (U32 ws.h)) (by kernel_rfl) ⟨k4, k5, k6, k7⟩ (fun hS => ?_)
  refine wpAnyH_take (i := 0) (oi := { dst := some 30, op := Op.indexAddr 82 (Operand.tmp 2) (Operand.const (Value.int IntKind.i64 4)), type := 0, pos := "sha256.go:91", after := #[], guard := none }) (v := ?vb13) rfl (by kernel_rfl) (by kernel_rfl) (by kernel_rfl) (fun _ _ _ h => h) (Or.inl ⟨by rfl, ?yb13⟩) hS ?_
  case yb13 =>
    intro w hSw
    go_simp; all_goals (with_reducible rfl)
  simp only [Act.put, List.setIfInBounds_toArray, List.set_cons_zero, List.set_cons_succ]
  refine wpAnyH_take (i := 1) (oi := { dst := some 31, op := Op.load 53 (Operand.tmp 30), type := 53, pos := "sha256.go:91", after := #[{ on := 0, ground := Ground.data }], guard := none }) (v := ?vb14) rfl (by kernel_rfl) (by kernel_rfl) (by kernel_rfl) (fun _ _ _ h => h) (Or.inl ⟨by rfl, ?yb14⟩) hS ?_
  case yb14 =>
    intro w hSw
    obtain ⟨j0, j1, j2, j3⟩ := hSw
    go_simp; all_goals (with_reducible rfl)
  simp only [Act.put, List.setIfInBounds_toArray, List.set_cons_zero, List.set_cons_succ]
  refine wpAnyH_take (i := 2) (oi := { dst := some 32, op := Op.indexAddr 82 (Operand.tmp 2) (Operand.const (Value.int IntKind.i64 5)), type := 0, pos := "sha256.go:91", after := #[{ on := 8, ground := Ground.gcOnly Departure.lateStores }], guard := none }) (v := ?vb15) rfl (by kernel_rfl) (by kernel_rfl) (by kernel_rfl) (fun _ _ _ h => h) (Or.inl ⟨by rfl, ?yb15⟩) hS ?_
  case yb15 =>
    intro w hSw
    go_simp; all_goals (with_reducible rfl)
  simp only [Act.put, List.setIfInBounds_toArray, List.set_cons_zero, List.set_cons_succ]
  refine wpAnyH_take (i := 3) (oi := { dst := some 33, op := Op.load 53 (Operand.tmp 32), type := 53, pos := "sha256.go:91", after := #[{ on := 2, ground := Ground.data }, { on := 8, ground := Ground.gcOnly Departure.lateStores }], guard := none }) (v := ?vb16) rfl (by kernel_rfl) (by kernel_rfl) (by kernel_rfl) (fun _ _ _ h => h) (Or.inl ⟨by rfl, ?yb16⟩) hS ?_
  case yb16 =>
    intro w hSw
    obtain ⟨j0, j1, j2, j3⟩ := hSw
    go_simp; all_goals (with_reducible rfl)
  simp only [Act.put, List.setIfInBounds_toArray, List.set_cons_zero, List.set_cons_succ]
  refine wpAnyH_take (i := 4) (oi := { dst := some 34, op := Op.indexAddr 82 (Operand.tmp 2) (Operand.const (Value.int IntKind.i64 6)), type := 0, pos := "sha256.go:91", after := #[{ on := 9, ground := Ground.gcOnly Departure.lateStores }], guard := none }) (v := ?vb17) rfl (by kernel_rfl) (by kernel_rfl) (by kernel_rfl) (fun _ _ _ h => h) (Or.inl ⟨by rfl, ?yb17⟩) hS ?_
  case yb17 =>
    intro w hSw
    go_simp; all_goals (with_reducible rfl)
  simp only [Act.put, List.setIfInBounds_toArray, List.set_cons_zero, List.set_cons_succ]
  refine wpAnyH_take (i := 5) (oi := { dst := some 35, op := Op.load 53 (Operand.tmp 34), type := 53, pos := "sha256.go:91", after := #[{ on := 4, ground := Ground.data }, { on := 9, ground := Ground.gcOnly Departure.lateStores }], guard := none }) (v := ?vb18) rfl (by kernel_rfl) (by kernel_rfl) (by kernel_rfl) (fun _ _ _ h => h) (Or.inl ⟨by rfl, ?yb18⟩) hS ?_
  case yb18 =>
    intro w hSw
    obtain ⟨j0, j1, j2, j3⟩ := hSw
    go_simp; all_goals (with_reducible rfl)
  simp only [Act.put, List.setIfInBounds_toArray, List.set_cons_zero, List.set_cons_succ]
  refine wpAnyH_take (i := 6) (oi := { dst := some 36, op := Op.indexAddr 82 (Operand.tmp 2) (Operand.const (Value.int IntKind.i64 7)), type := 0, pos := "sha256.go:91", after := #[{ on := 10, ground := Ground.gcOnly Departure.lateStores }], guard := none }) (v := ?vb19) rfl (by kernel_rfl) (by kernel_rfl) (by kernel_rfl) (fun _ _ _ h => h) (Or.inl ⟨by rfl, ?yb19⟩) hS ?_
  case yb19 =>
    intro w hSw
    go_simp; all_goals (with_reducible rfl)
  simp only [Act.put, List.setIfInBounds_toArray, List.set_cons_zero, List.set_cons_succ]
  refine wpAnyH_take (i := 7) (oi := { dst := some 37, op := Op.load 53 (Operand.tmp 36), type := 53, pos := "sha256.go:91", after := #[{ on := 6, ground := Ground.data }, { on := 10, ground := Ground.gcOnly Departure.lateStores }], guard := none }) (v := ?vb20) rfl (by kernel_rfl) (by kernel_rfl) (by kernel_rfl) (fun _ _ _ h => h) (Or.inl ⟨by rfl, ?yb20⟩) hS ?_
  case yb20 =>
    intro w hSw
    obtain ⟨j0, j1, j2, j3⟩ := hSw
    go_simp; all_goals (with_reducible rfl)
  simp only [Act.put, List.setIfInBounds_toArray, List.set_cons_zero, List.set_cons_succ]
  refine wpAnyH_take (i := 8) (oi := { dst := some 10, op := Op.assign (Operand.tmp 31), type := 53, pos := "sha256.go:91", after := #[{ on := 1, ground := Ground.data }, { on := 0, ground := Ground.phase }, { on := 1, ground := Ground.phase }, { on := 2, ground := Ground.textOnly Departure.lateStores }, { on := 3, ground := Ground.textOnly Departure.lateStores }, { on := 4, ground := Ground.textOnly Departure.lateStores }, { on := 5, ground := Ground.textOnly Departure.lateStores }, { on := 6, ground := Ground.textOnly Departure.lateStores }, { on := 7, ground := Ground.textOnly Departure.lateStores }], guard := none }) (v := ?vb21) rfl (by kernel_rfl) (by kernel_rfl) (by kernel_rfl) (fun _ _ _ h => h) (Or.inl ⟨by rfl, ?yb21⟩) hS ?_
  case yb21 =>
    intro w hSw
    go_simp; all_goals (with_reducible rfl)
  simp only [Act.put, List.setIfInBounds_toArray, List.set_cons_zero, List.set_cons_succ]
  refine wpAnyH_take (i := 9) (oi := { dst := some 11, op := Op.assign (Operand.tmp 33), type := 53, pos := "sha256.go:91", after := #[{ on := 3, ground := Ground.data }, { on := 8, ground := Ground.chain }, { on := 0, ground := Ground.phase }, { on := 1, ground := Ground.phase }, { on := 2, ground := Ground.phase }, { on := 3, ground := Ground.phase }, { on := 4, ground := Ground.textOnly Departure.lateStores }, { on := 5, ground := Ground.textOnly Departure.lateStores }, { on := 6, ground := Ground.textOnly Departure.lateStores }, { on := 7, ground := Ground.textOnly Departure.lateStores }, { on := 8, ground := Ground.phase }], guard := none }) (v := ?vb22) rfl (by kernel_rfl) (by kernel_rfl) (by kernel_rfl) (fun _ _ _ h => h) (Or.inl ⟨by rfl, ?yb22⟩) hS ?_
  case yb22 =>
    intro w hSw
    go_simp; all_goals (with_reducible rfl)
  simp only [Act.put, List.setIfInBounds_toArray, List.set_cons_zero, List.set_cons_succ]
  refine wpAnyH_take (i := 10) (oi := { dst := some 12, op := Op.assign (Operand.tmp 35), type := 53, pos := "sha256.go:91", after := #[{ on := 5, ground := Ground.data }, { on := 9, ground := Ground.chain }, { on := 0, ground := Ground.phase }, { on := 1, ground := Ground.phase }, { on := 2, ground := Ground.phase }, { on := 3, ground := Ground.phase }, { on := 4, ground := Ground.phase }, { on := 5, ground := Ground.phase }, { on := 6, ground := Ground.textOnly Departure.lateStores }, { on := 7, ground := Ground.textOnly Departure.lateStores }, { on := 8, ground := Ground.phase }, { on := 9, ground := Ground.phase }], guard := none }) (v := ?vb23) rfl (by kernel_rfl) (by kernel_rfl) (by kernel_rfl) (fun _ _ _ h => h) (Or.inl ⟨by rfl, ?yb23⟩) hS ?_
  case yb23 =>
    intro w hSw
    go_simp; all_goals (with_reducible rfl)
  simp only [Act.put, List.setIfInBounds_toArray, List.set_cons_zero, List.set_cons_succ]
  refine wpAnyH_take (i := 11) (oi := { dst := some 13, op := Op.assign (Operand.tmp 37), type := 53, pos := "sha256.go:91", after := #[{ on := 7, ground := Ground.data }, { on := 10, ground := Ground.chain }, { on := 0, ground := Ground.phase }, { on := 1, ground := Ground.phase }, { on := 2, ground := Ground.phase }, { on := 3, ground := Ground.phase }, { on := 4, ground := Ground.phase }, { on := 5, ground := Ground.phase }, { on := 6, ground := Ground.phase }, { on := 7, ground := Ground.phase }, { on := 8, ground := Ground.phase }, { on := 9, ground := Ground.phase }, { on := 10, ground := Ground.phase }], guard := none }) (v := ?vb24) rfl (by kernel_rfl) (by kernel_rfl) (by kernel_rfl) (fun _ _ _ h => h) (Or.inl ⟨by rfl, ?yb24⟩) hS ?_
  case yb24 =>
    intro w hSw
    go_simp; all_goals (with_reducible rfl)
  simp only [Act.put, List.setIfInBounds_toArray, List.set_cons_zero, List.set_cons_succ]
  refine wpAnyH_done (by kernel_rfl) ?_ _
  clear k4 k5 k6 k7 hS
  have hlast3 : w5.drew.drew.heap[w4.heap.size]? = some (.cells W 91 (0, 0)) := hlast2
  go_wp2_with (refine wpList_load_row rfl 91 _ rfl w4.heap.size rfl 91 W _ _ hlast3 Tryd.underlying91 rfl (by rw [zsizeW, HWS.out]) ?_)
  have hrA6 : w5.drew.drew.rowIs w.heap.size 82 8 (fun i => U32 (ws.get i)) := hrA5
  have hrC6 : w5.drew.drew.rowIs (w.heap.size + 1 + 1) 82 8 (fun _ => .int .u32 0) := hrC5
  have g6 : Below w.heap.size w w5.drew.drew := g5.drew.drew
  clear hlast2 hlast3 hrA5 hrC5 g5
  generalize w5.drew.drew = w6 at *
  go_loopw [6, 7, 8, 9, 10, 11, 12, 13, 39] (fun s6 s7 s8 s9 s10 s11 s12 s13 i wr => ∃ (k : Nat) (a b c d e f g h : BitVec 32), k ≤ 64 ∧ rounds blk k ws = ⟨a, b, c, d, e, f, g, h⟩ ∧ s6 = U32 a ∧ s7 = U32 b ∧ s8 = U32 c ∧ s9 = U32 d ∧ s10 = U32 e ∧ s11 = U32 f ∧ s12 = U32 g ∧ s13 = U32 h ∧ i = .int .i64 k ∧ wr.rowIs w.heap.size 82 8 (fun i => U32 (ws.get i)) ∧ wr.rowIs (w.heap.size + 1 + 1) 82 8 (fun _ => .int .u32 0) ∧ Below w.heap.size w wr) (fun _ _ _ _ _ _ _ _ i _ => 64 - (intOf i).toNat)
  case atStart => exact ⟨0, ws.a, ws.b, ws.c, ws.d, ws.e, ws.f, ws.g, ws.h, by omega, rfl, rfl, rfl, rfl, rfl, rfl, rfl, rfl, rfl, rfl, hrA6, hrC6, g6⟩
  case round =>
    clear hrA6 hrC6 g6
    obtain ⟨k, a, b, c, d, e, f, g, h, hk, hr, rfl, rfl, rfl, rfl, rfl, rfl, rfl, rfl, rfl, hrA, hrC, hb⟩ := hrel
    by_cases hlt : k < 64
    · have hn := HRN.out k ws
      rw [hr] at hn
      have hu : uOf ⟨a, b, c, d, e, f, g, h⟩ = (rot 2 a ^^^ rot 13 a ^^^ rot 22 a) + ((a &&& b) ^^^ (a &&& c) ^^^ (b &&& c)) := rfl
      have ht : tOf ⟨a, b, c, d, e, f, g, h⟩ (Kc k) (wd blk k) = h + (rot 6 e ^^^ rot 11 e ^^^ rot 25 e) + ((e &&& f) ^^^ (~~~e &&& g)) + Kc k + wd blk k := rfl
      have hro : roundOf (Kc k) (wd blk k) ⟨a, b, c, d, e, f, g, h⟩ = ⟨tOf ⟨a, b, c, d, e, f, g, h⟩ (Kc k) (wd blk k) + uOf ⟨a, b, c, d, e, f, g, h⟩, a, b, c, d + tOf ⟨a, b, c, d, e, f, g, h⟩ (Kc k) (wd blk k), e, f, g⟩ := rfl
      rw [hro, hu, ht] at hn
      have hix := HWI.out k hlt
      have kK : wr.drew.cell? ⟨2, k, none⟩ = some (U32 (Kc k)) := (hb.cell (p := ⟨2, k, none⟩) h1).trans (HK.out k hlt)
      generalize wd blk k = wv at *
      generalize Kc k = kk at *
      have HR6 := Lib.hid (right_6 e)
      have HR11 := Lib.hid (right_11 e)
      have HR25 := Lib.hid (right_25 e)
      have HR2 := Lib.hid (right_2 a)
      have HR13 := Lib.hid (right_13 a)
      have HR22 := Lib.hid (right_22 a)
      clear hu ht hro hr
      generalize rot 6 e = r6 at *
      generalize rot 11 e = r11 at *
      generalize rot 25 e = r25 at *
      generalize rot 2 a = r2 at *
      generalize rot 13 a = r13 at *
      generalize rot 22 a = r22 at *
      have HX1 := Lib.hid (sx32 r6 r11)
      generalize r6 ^^^ r11 = x1 at *
      have HX2 := Lib.hid (sx32 x1 r25)
      generalize x1 ^^^ r25 = x2 at *
      have HV1 := Lib.hid (add32 h x2)
      generalize h + x2 = v1 at *
      have HA1 := Lib.hid (sa32 e f)
      generalize e &&& f = a1 at *
      have HNO := Lib.hid (bnot32' e)
      generalize ~~~e = n1 at *
      have HA2 := Lib.hid (sa32 n1 g)
      generalize n1 &&& g = a2 at *
      have HC1 := Lib.hid (sx32 a1 a2)
      generalize a1 ^^^ a2 = c1 at *
      have HV2 := Lib.hid (add32 v1 c1)
      generalize v1 + c1 = v2 at *
      have HV3 := Lib.hid (add32 v2 kk)
      generalize v2 + kk = v3 at *
      have HV4 := Lib.hid (add32 v3 wv)
      generalize v3 + wv = t at *
      have HY1 := Lib.hid (sx32 r2 r13)
      generalize r2 ^^^ r13 = y1 at *
      have HY2 := Lib.hid (sx32 y1 r22)
      generalize y1 ^^^ r22 = y2 at *
      have HM1 := Lib.hid (sa32 a b)
      generalize a &&& b = m1 at *
      have HM2 := Lib.hid (sa32 a c)
      generalize a &&& c = m2 at *
      have HM3 := Lib.hid (sx32 m1 m2)
      generalize m1 ^^^ m2 = m3 at *
      have HM4 := Lib.hid (sa32 b c)
      generalize b &&& c = m4 at *
      have HM5 := Lib.hid (sx32 m3 m4)
      generalize m3 ^^^ m4 = m5 at *
      have HU := Lib.hid (add32m y2 m5)
      generalize y2 + m5 = u at *
      have HDT := Lib.hid (add32m d t)
      generalize d + t = dt at *
      have HTU := Lib.hid (add32m t u)
      generalize t + u = tu at *
      have HN := Lib.hid hn
      clear hn
      go_wp2_with fail
      refine wp_region_held_drew (S := fun w' => w'.cell? ⟨2, k, none⟩ = some (U32 kk)) (by kernel_rfl) kK (fun hS => ?_)
      refine wpAnyH_take (i := 0) (oi := { dst := some 43, op := Op.move (Operand.tmp 13), type := 53, pos := "sha256.go:93", after := #[], guard := none }) (v := ?vc25) rfl (by kernel_rfl) (by kernel_rfl) (by kernel_rfl) (fun _ _ _ h => h) (Or.inl ⟨by rfl, ?yc25⟩) hS ?_
      case yc25 =>
        intro w hSw
        go_simp; all_goals (with_reducible rfl)
      simp only [Act.put, List.setIfInBounds_toArray, List.set_cons_zero, List.set_cons_succ]
      refine wpAnyH_take (i := 1) (oi := { dst := some 44, op := Op.move (Operand.tmp 10), type := 53, pos := "sha256.go:93", after := #[], guard := none }) (v := ?vc26) rfl (by kernel_rfl) (by kernel_rfl) (by kernel_rfl) (fun _ _ _ h => h) (Or.inl ⟨by rfl, ?yc26⟩) hS ?_
      case yc26 =>
        intro w hSw
        go_simp; all_goals (with_reducible rfl)
      simp only [Act.put, List.setIfInBounds_toArray, List.set_cons_zero, List.set_cons_succ]
      refine wpAnyH_take (i := 3) (oi := { dst := some 46, op := Op.move (Operand.tmp 10), type := 53, pos := "sha256.go:93", after := #[], guard := none }) (v := ?vc27) rfl (by kernel_rfl) (by kernel_rfl) (by kernel_rfl) (fun _ _ _ h => h) (Or.inl ⟨by rfl, ?yc27⟩) hS ?_
      case yc27 =>
        intro w hSw
        go_simp; all_goals (with_reducible rfl)
      simp only [Act.put, List.setIfInBounds_toArray, List.set_cons_zero, List.set_cons_succ]
      refine wpAnyH_take (i := 6) (oi := { dst := some 49, op := Op.move (Operand.tmp 10), type := 53, pos := "sha256.go:93", after := #[], guard := none }) (v := ?vc28) rfl (by kernel_rfl) (by kernel_rfl) (by kernel_rfl) (fun _ _ _ h => h) (Or.inl ⟨by rfl, ?yc28⟩) hS ?_
      case yc28 =>
        intro w hSw
        go_simp; all_goals (with_reducible rfl)
      simp only [Act.put, List.setIfInBounds_toArray, List.set_cons_zero, List.set_cons_succ]
      refine wpAnyH_take (i := 10) (oi := { dst := some 53, op := Op.move (Operand.tmp 10), type := 53, pos := "sha256.go:93", after := #[], guard := none }) (v := ?vc29) rfl (by kernel_rfl) (by kernel_rfl) (by kernel_rfl) (fun _ _ _ h => h) (Or.inl ⟨by rfl, ?yc29⟩) hS ?_
      case yc29 =>
        intro w hSw
        go_simp; all_goals (with_reducible rfl)
      simp only [Act.put, List.setIfInBounds_toArray, List.set_cons_zero, List.set_cons_succ]
      refine wpAnyH_take (i := 11) (oi := { dst := some 54, op := Op.move (Operand.tmp 11), type := 53, pos := "sha256.go:93", after := #[], guard := none }) (v := ?vc30) rfl (by kernel_rfl) (by kernel_rfl) (by kernel_rfl) (fun _ _ _ h => h) (Or.inl ⟨by rfl, ?yc30⟩) hS ?_
      case yc30 =>
        intro w hSw
        go_simp; all_goals (with_reducible rfl)
      simp only [Act.put, List.setIfInBounds_toArray, List.set_cons_zero, List.set_cons_succ]
      refine wpAnyH_take (i := 12) (oi := { dst := some 55, op := Op.binOp BinOp.and 53 (Operand.tmp 53) (Operand.tmp 54) 53, type := 53, pos := "sha256.go:93", after := #[{ on := 10, ground := Ground.data }, { on := 11, ground := Ground.data }], guard := none }) (v := ?vc31) rfl (by kernel_rfl) (by kernel_rfl) (by kernel_rfl) (fun _ _ _ h => h) (Or.inl ⟨by rfl, ?yc31⟩) hS ?_
      case yc31 =>
        intro w hSw
        go_simp; all_goals (with_reducible rfl)
      simp only [Act.put, List.setIfInBounds_toArray, List.set_cons_zero, List.set_cons_succ]
      rw [HA1.out]
      refine wpAnyH_take (i := 13) (oi := { dst := some 56, op := Op.move (Operand.tmp 10), type := 53, pos := "sha256.go:93", after := #[], guard := none }) (v := ?vc32) rfl (by kernel_rfl) (by kernel_rfl) (by kernel_rfl) (fun _ _ _ h => h) (Or.inl ⟨by rfl, ?yc32⟩) hS ?_
      case yc32 =>
        intro w hSw
        go_simp; all_goals (with_reducible rfl)
      simp only [Act.put, List.setIfInBounds_toArray, List.set_cons_zero, List.set_cons_succ]
      refine wpAnyH_take (i := 14) (oi := { dst := some 57, op := Op.unOp UnOp.xor 53 (Operand.tmp 56), type := 53, pos := "sha256.go:93", after := #[{ on := 13, ground := Ground.data }], guard := none }) (v := ?vc33) rfl (by kernel_rfl) (by kernel_rfl) (by kernel_rfl) (fun _ _ _ h => h) (Or.inl ⟨by rfl, ?yc33⟩) hS ?_
      case yc33 =>
        intro w hSw
        go_simp; all_goals (with_reducible rfl)
      simp only [Act.put, List.setIfInBounds_toArray, List.set_cons_zero, List.set_cons_succ]
      rw [HNO.out]
      refine wpAnyH_take (i := 15) (oi := { dst := some 58, op := Op.move (Operand.tmp 12), type := 53, pos := "sha256.go:93", after := #[], guard := none }) (v := ?vc34) rfl (by kernel_rfl) (by kernel_rfl) (by kernel_rfl) (fun _ _ _ h => h) (Or.inl ⟨by rfl, ?yc34⟩) hS ?_
      case yc34 =>
        intro w hSw
        go_simp; all_goals (with_reducible rfl)
      simp only [Act.put, List.setIfInBounds_toArray, List.set_cons_zero, List.set_cons_succ]
      refine wpAnyH_take (i := 16) (oi := { dst := some 59, op := Op.binOp BinOp.and 53 (Operand.tmp 57) (Operand.tmp 58) 53, type := 53, pos := "sha256.go:93", after := #[{ on := 14, ground := Ground.data }, { on := 15, ground := Ground.data }], guard := none }) (v := ?vc35) rfl (by kernel_rfl) (by kernel_rfl) (by kernel_rfl) (fun _ _ _ h => h) (Or.inl ⟨by rfl, ?yc35⟩) hS ?_
      case yc35 =>
        intro w hSw
        go_simp; all_goals (with_reducible rfl)
      simp only [Act.put, List.setIfInBounds_toArray, List.set_cons_zero, List.set_cons_succ]
      rw [HA2.out]
      refine wpAnyH_take (i := 17) (oi := { dst := some 60, op := Op.binOp BinOp.xor 53 (Operand.tmp 55) (Operand.tmp 59) 53, type := 53, pos := "sha256.go:93", after := #[{ on := 12, ground := Ground.data }, { on := 16, ground := Ground.data }], guard := none }) (v := ?vc36) rfl (by kernel_rfl) (by kernel_rfl) (by kernel_rfl) (fun _ _ _ h => h) (Or.inl ⟨by rfl, ?yc36⟩) hS ?_
      case yc36 =>
        intro w hSw
        go_simp; all_goals (with_reducible rfl)
      simp only [Act.put, List.setIfInBounds_toArray, List.set_cons_zero, List.set_cons_succ]
      rw [HC1.out]
      refine wpAnyH_take (i := 19) (oi := { dst := some 62, op := Op.move (Operand.tmp 14), type := 3, pos := "sha256.go:93", after := #[], guard := none }) (v := ?vc37) rfl (by kernel_rfl) (by kernel_rfl) (by kernel_rfl) (fun _ _ _ h => h) (Or.inl ⟨by rfl, ?yc37⟩) hS ?_
      case yc37 =>
        intro w hSw
        go_simp; all_goals (with_reducible rfl)
      simp only [Act.put, List.setIfInBounds_toArray, List.set_cons_zero, List.set_cons_succ]
      refine wpAnyH_take (i := 20) (oi := { dst := some 63, op := Op.indexAddr 91 (Operand.global 2) (Operand.tmp 62), type := 0, pos := "sha256.go:93", after := #[{ on := 19, ground := Ground.data }], guard := none }) (v := ?vc38) rfl (by kernel_rfl) (by kernel_rfl) (by kernel_rfl) (fun _ _ _ h => h) (Or.inl ⟨by rfl, ?yc38⟩) hS ?_
      case yc38 =>
        intro w hSw
        have q0 : (0 : Int) ≤ (k : Int) := by omega
        have q1 : (k : Int) < 64 := by omega
        go_simp; all_goals (with_reducible rfl)
      simp only [Act.put, List.setIfInBounds_toArray, List.set_cons_zero, List.set_cons_succ]
      refine wpAnyH_take (i := 21) (oi := { dst := some 64, op := Op.load 53 (Operand.tmp 63), type := 53, pos := "sha256.go:93", after := #[{ on := 20, ground := Ground.data }], guard := none }) (v := ?vc39) rfl (by kernel_rfl) (by kernel_rfl) (by kernel_rfl) (fun _ _ _ h => h) (Or.inl ⟨by rfl, ?yc39⟩) hS ?_
      case yc39 =>
        intro w hSw
        have j0 := hSw
        go_simp; all_goals (with_reducible rfl)
      simp only [Act.put, List.setIfInBounds_toArray, List.set_cons_zero, List.set_cons_succ]
      refine wpAnyH_take (i := 23) (oi := { dst := some 66, op := Op.move (Operand.tmp 15), type := 53, pos := "sha256.go:93", after := #[], guard := none }) (v := ?vc40) rfl (by kernel_rfl) (by kernel_rfl) (by kernel_rfl) (fun _ _ _ h => h) (Or.inl ⟨by rfl, ?yc40⟩) hS ?_
      case yc40 =>
        intro w hSw
        go_simp; all_goals (with_reducible rfl)
      simp only [Act.put, List.setIfInBounds_toArray, List.set_cons_zero, List.set_cons_succ]
      refine wpAnyH_ready (rs := [2]) (by kernel_rfl) (by simp) ?_
      refine (AllReadyH.cons (o := { dst := some 45, op := Op.call { callee := Callee.value (Operand.func 65), args := #[Operand.tmp 44, Operand.const (Value.int IntKind.i64 6)], argTypes := #[53, 3] }, type := 53, pos := "sha256.go:93", after := #[{ on := 1, ground := Ground.data }], guard := none }) rfl (fun K hK => ?_) AllReadyH.nil)
      go_simp
      refine (HR6.out _).mono ?_
      rintro e w' ⟨rfl, rfl⟩
      go_wp2_with fail
      refine hK.out _ _ hS (fun _ => ?_)
      clear hK K
      refine wpAnyH_ready (rs := [4]) (by kernel_rfl) (by simp) ?_
      refine (AllReadyH.cons (o := { dst := some 47, op := Op.call { callee := Callee.value (Operand.func 65), args := #[Operand.tmp 46, Operand.const (Value.int IntKind.i64 11)], argTypes := #[53, 3] }, type := 53, pos := "sha256.go:93", after := #[{ on := 3, ground := Ground.data }, { on := 2, ground := Ground.chain }], guard := none }) rfl (fun K hK => ?_) AllReadyH.nil)
      go_simp
      refine (HR11.out _).mono ?_
      rintro e w' ⟨rfl, rfl⟩
      go_wp2_with fail
      refine hK.out _ _ hS (fun _ => ?_)
      clear hK K
      refine wpAnyH_take (i := 5) (oi := { dst := some 48, op := Op.binOp BinOp.xor 53 (Operand.tmp 45) (Operand.tmp 47) 53, type := 53, pos := "sha256.go:93", after := #[{ on := 2, ground := Ground.data }, { on := 4, ground := Ground.data }], guard := none }) (v := ?vc41) rfl (by kernel_rfl) (by kernel_rfl) (by kernel_rfl) (fun _ _ _ h => h) (Or.inl ⟨by rfl, ?yc41⟩) hS ?_
      case yc41 =>
        intro w hSw
        go_simp; all_goals (with_reducible rfl)
      simp only [Act.put, List.setIfInBounds_toArray, List.set_cons_zero, List.set_cons_succ]
      rw [HX1.out]
      refine wpAnyH_ready (rs := [7]) (by kernel_rfl) (by simp) ?_
      refine (AllReadyH.cons (o := { dst := some 50, op := Op.call { callee := Callee.value (Operand.func 65), args := #[Operand.tmp 49, Operand.const (Value.int IntKind.i64 25)], argTypes := #[53, 3] }, type := 53, pos := "sha256.go:93", after := #[{ on := 6, ground := Ground.data }, { on := 4, ground := Ground.chain }], guard := none }) rfl (fun K hK => ?_) AllReadyH.nil)
      go_simp
      refine (HR25.out _).mono ?_
      rintro e w' ⟨rfl, rfl⟩
      go_wp2_with fail
      refine hK.out _ _ hS (fun _ => ?_)
      clear hK K
      refine wpAnyH_take (i := 8) (oi := { dst := some 51, op := Op.binOp BinOp.xor 53 (Operand.tmp 48) (Operand.tmp 50) 53, type := 53, pos := "sha256.go:93", after := #[{ on := 5, ground := Ground.data }, { on := 7, ground := Ground.data }], guard := none }) (v := ?vc42) rfl (by kernel_rfl) (by kernel_rfl) (by kernel_rfl) (fun _ _ _ h => h) (Or.inl ⟨by rfl, ?yc42⟩) hS ?_
      case yc42 =>
        intro w hSw
        go_simp; all_goals (with_reducible rfl)
      simp only [Act.put, List.setIfInBounds_toArray, List.set_cons_zero, List.set_cons_succ]
      rw [HX2.out]
      refine wpAnyH_take (i := 9) (oi := { dst := some 52, op := Op.binOp BinOp.add 53 (Operand.tmp 43) (Operand.tmp 51) 53, type := 53, pos := "sha256.go:93", after := #[{ on := 0, ground := Ground.data }, { on := 8, ground := Ground.data }], guard := none }) (v := ?vc43) rfl (by kernel_rfl) (by kernel_rfl) (by kernel_rfl) (fun _ _ _ h => h) (Or.inl ⟨by rfl, ?yc43⟩) hS ?_
      case yc43 =>
        intro w hSw
        go_simp; all_goals (with_reducible rfl)
      simp only [Act.put, List.setIfInBounds_toArray, List.set_cons_zero, List.set_cons_succ]
      rw [HV1.out]
      refine wpAnyH_take (i := 18) (oi := { dst := some 61, op := Op.binOp BinOp.add 53 (Operand.tmp 52) (Operand.tmp 60) 53, type := 53, pos := "sha256.go:93", after := #[{ on := 9, ground := Ground.data }, { on := 17, ground := Ground.data }], guard := none }) (v := ?vc44) rfl (by kernel_rfl) (by kernel_rfl) (by kernel_rfl) (fun _ _ _ h => h) (Or.inl ⟨by rfl, ?yc44⟩) hS ?_
      case yc44 =>
        intro w hSw
        go_simp; all_goals (with_reducible rfl)
      simp only [Act.put, List.setIfInBounds_toArray, List.set_cons_zero, List.set_cons_succ]
      rw [HV2.out]
      refine wpAnyH_take (i := 22) (oi := { dst := some 65, op := Op.binOp BinOp.add 53 (Operand.tmp 61) (Operand.tmp 64) 53, type := 53, pos := "sha256.go:93", after := #[{ on := 18, ground := Ground.data }, { on := 21, ground := Ground.data }], guard := none }) (v := ?vc45) rfl (by kernel_rfl) (by kernel_rfl) (by kernel_rfl) (fun _ _ _ h => h) (Or.inl ⟨by rfl, ?yc45⟩) hS ?_
      case yc45 =>
        intro w hSw
        go_simp; all_goals (with_reducible rfl)
      simp only [Act.put, List.setIfInBounds_toArray, List.set_cons_zero, List.set_cons_succ]
      rw [HV3.out]
      refine wpAnyH_take (i := 24) (oi := { dst := some 67, op := Op.binOp BinOp.add 53 (Operand.tmp 65) (Operand.tmp 66) 53, type := 53, pos := "sha256.go:93", after := #[{ on := 22, ground := Ground.data }, { on := 23, ground := Ground.data }], guard := none }) (v := ?vc46) rfl (by kernel_rfl) (by kernel_rfl) (by kernel_rfl) (fun _ _ _ h => h) (Or.inl ⟨by rfl, ?yc46⟩) hS ?_
      case yc46 =>
        intro w hSw
        go_simp; all_goals (with_reducible rfl)
      simp only [Act.put, List.setIfInBounds_toArray, List.set_cons_zero, List.set_cons_succ]
      rw [HV4.out]
      refine wpAnyH_take (i := 25) (oi := { dst := some 16, op := Op.assign (Operand.tmp 67), type := 53, pos := "sha256.go:93", after := #[{ on := 24, ground := Ground.data }, { on := 7, ground := Ground.chain }, { on := 0, ground := Ground.phase }, { on := 1, ground := Ground.phase }, { on := 2, ground := Ground.phase }, { on := 3, ground := Ground.phase }, { on := 4, ground := Ground.phase }, { on := 5, ground := Ground.phase }, { on := 6, ground := Ground.phase }, { on := 7, ground := Ground.phase }, { on := 8, ground := Ground.phase }, { on := 9, ground := Ground.phase }, { on := 10, ground := Ground.phase }, { on := 11, ground := Ground.phase }, { on := 12, ground := Ground.phase }, { on := 13, ground := Ground.phase }, { on := 14, ground := Ground.phase }, { on := 15, ground := Ground.phase }, { on := 16, ground := Ground.phase }, { on := 17, ground := Ground.phase }, { on := 18, ground := Ground.phase }, { on := 19, ground := Ground.phase }, { on := 20, ground := Ground.phase }, { on := 21, ground := Ground.phase }, { on := 22, ground := Ground.phase }, { on := 23, ground := Ground.phase }, { on := 24, ground := Ground.phase }], guard := none }) (v := ?vc47) rfl (by kernel_rfl) (by kernel_rfl) (by kernel_rfl) (fun _ _ _ h => h) (Or.inl ⟨by rfl, ?yc47⟩) hS ?_
      case yc47 =>
        intro w hSw
        go_simp; all_goals (with_reducible rfl)
      simp only [Act.put, List.setIfInBounds_toArray, List.set_cons_zero, List.set_cons_succ]
      refine wpAnyH_done (by kernel_rfl) ?_ _
      clear kK hix
      have q1 := HY1.out
      have q2 := HY2.out
      have q3 := HM1.out
      have q4 := HM2.out
      have q5 := HM3.out
      have q6 := HM4.out
      have q7 := HM5.out
      have q8 := HU.out
      have q9 := HDT.out
      have q10 := HTU.out
      go_wp2_with fail
      refine (HR2.out _).mono ?_
      rintro e w' ⟨rfl, rfl⟩
      go_wp2_with fail
      refine (HR13.out _).mono ?_
      rintro e w' ⟨rfl, rfl⟩
      go_wp2_with fail
      refine (HR22.out _).mono ?_
      rintro e w' ⟨rfl, rfl⟩
      go_wp2_with fail
      go_roundw
      case rel => exact ⟨k + 1, tu, a, b, c, dt, e, f, g, by omega, HN.out, (by first | rfl | exact congrArg (Value.int .u32) HTU.out), rfl, rfl, rfl, (by first | rfl | exact congrArg (Value.int .u32) HDT.out), rfl, rfl, rfl, by go_num, hrA, hrC, hb.drew⟩
      case measure => simp [intOf]; omega
    · obtain rfl : k = 64 := by omega
      have hm := HMX.out
      rw [hr] at hm
      have HM := Lib.hid hm
      clear hm hr hlt hk HWI HRN HSP hz64 hz8
      rw [show ((64 : Nat) : Int) = 64 from rfl]
      go_wp2_with fail
      go_loopw [110] (fun i wr => ∃ (k : Nat), k ≤ 8 ∧ i = .int .i64 k ∧ wr.rowIs w.heap.size 82 8 (fun i => if i < k then U32 (ws.get i + (R8.mk a b c d e f g h).get i) else U32 (ws.get i)) ∧ wr.rowIs (w.heap.size + 1 + 1) 82 8 (fun _ => .int .u32 0) ∧ Below w.heap.size w wr) (fun i _ => 8 - (intOf i).toNat)
      case atStart => exact ⟨0, by omega, rfl, hrA.congr fun i _ => by rw [if_neg (by omega)], hrC, hb⟩
      case round =>
        clear hrA hrC hb
        obtain ⟨k, hk, rfl, hrA, hrC, hb⟩ := hrel
        have hcase : k = 0 ∨ k = 1 ∨ k = 2 ∨ k = 3 ∨ k = 4 ∨ k = 5 ∨ k = 6 ∨ k = 7 ∨ k = 8 := by omega
        rcases hcase with rfl | rfl | rfl | rfl | rfl | rfl | rfl | rfl | rfl
        · have hc : wr.cell? ⟨w.heap.size, 0, none⟩ = some (U32 ws.a) := hrA.cell (i := 0) (by omega)
          have hf := hrA.frozen 0
          have HA := Lib.hid (add32m ws.a a)
          have hix : ∀ w, (Instr.index 82 (.agg #[U32 a, U32 b, U32 c, U32 d, U32 e, U32 f, U32 g, U32 h]) (.int .i64 0)).run Tryd.prog w = .ok (U32 a) w := fun w => agg8_index ⟨a, b, c, d, e, f, g, h⟩ 0 (by omega) w
          rw [show ((0 : Nat) : Int) = 0 from rfl]
          generalize hxx : ws.a = xx at *
          have HXX := Lib.hid hxx
          clear hxx
          go_wp2_with fail
          go_roundw
          case rel =>
            refine ⟨1, by omega, rfl, ?_, hrC.setOther (by simp; omega) _, hb.setCell (by simp) _⟩
            exact (hrA.set 0 _).congr fun i _ => by
              by_cases h : i = 0
              · subst h
                rw [if_pos rfl, if_pos (by omega)]
                rw [HA.out, ← HXX.out]; rfl
              · rw [if_neg h]
                by_cases h2 : i < 0
                · rw [if_pos h2, if_pos (by omega)]
                · rw [if_neg h2, if_neg (by omega)]
          case measure => simp [intOf]
        · have hc : wr.cell? ⟨w.heap.size, 1, none⟩ = some (U32 ws.b) := hrA.cell (i := 1) (by omega)
          have hf := hrA.frozen 1
          have HA := Lib.hid (add32m ws.b b)
          have hix : ∀ w, (Instr.index 82 (.agg #[U32 a, U32 b, U32 c, U32 d, U32 e, U32 f, U32 g, U32 h]) (.int .i64 1)).run Tryd.prog w = .ok (U32 b) w := fun w => agg8_index ⟨a, b, c, d, e, f, g, h⟩ 1 (by omega) w
          rw [show ((1 : Nat) : Int) = 1 from rfl]
          generalize hxx : ws.b = xx at *
          have HXX := Lib.hid hxx
          clear hxx
          go_wp2_with fail
          go_roundw
          case rel =>
            refine ⟨2, by omega, rfl, ?_, hrC.setOther (by simp; omega) _, hb.setCell (by simp) _⟩
            exact (hrA.set 1 _).congr fun i _ => by
              by_cases h : i = 1
              · subst h
                rw [if_pos rfl, if_pos (by omega)]
                rw [HA.out, ← HXX.out]; rfl
              · rw [if_neg h]
                by_cases h2 : i < 1
                · rw [if_pos h2, if_pos (by omega)]
                · rw [if_neg h2, if_neg (by omega)]
          case measure => simp [intOf]
        · have hc : wr.cell? ⟨w.heap.size, 2, none⟩ = some (U32 ws.c) := hrA.cell (i := 2) (by omega)
          have hf := hrA.frozen 2
          have HA := Lib.hid (add32m ws.c c)
          have hix : ∀ w, (Instr.index 82 (.agg #[U32 a, U32 b, U32 c, U32 d, U32 e, U32 f, U32 g, U32 h]) (.int .i64 2)).run Tryd.prog w = .ok (U32 c) w := fun w => agg8_index ⟨a, b, c, d, e, f, g, h⟩ 2 (by omega) w
          rw [show ((2 : Nat) : Int) = 2 from rfl]
          generalize hxx : ws.c = xx at *
          have HXX := Lib.hid hxx
          clear hxx
          go_wp2_with fail
          go_roundw
          case rel =>
            refine ⟨3, by omega, rfl, ?_, hrC.setOther (by simp; omega) _, hb.setCell (by simp) _⟩
            exact (hrA.set 2 _).congr fun i _ => by
              by_cases h : i = 2
              · subst h
                rw [if_pos rfl, if_pos (by omega)]
                rw [HA.out, ← HXX.out]; rfl
              · rw [if_neg h]
                by_cases h2 : i < 2
                · rw [if_pos h2, if_pos (by omega)]
                · rw [if_neg h2, if_neg (by omega)]
          case measure => simp [intOf]
        · have hc : wr.cell? ⟨w.heap.size, 3, none⟩ = some (U32 ws.d) := hrA.cell (i := 3) (by omega)
          have hf := hrA.frozen 3
          have HA := Lib.hid (add32m ws.d d)
          have hix : ∀ w, (Instr.index 82 (.agg #[U32 a, U32 b, U32 c, U32 d, U32 e, U32 f, U32 g, U32 h]) (.int .i64 3)).run Tryd.prog w = .ok (U32 d) w := fun w => agg8_index ⟨a, b, c, d, e, f, g, h⟩ 3 (by omega) w
          rw [show ((3 : Nat) : Int) = 3 from rfl]
          generalize hxx : ws.d = xx at *
          have HXX := Lib.hid hxx
          clear hxx
          go_wp2_with fail
          go_roundw
          case rel =>
            refine ⟨4, by omega, rfl, ?_, hrC.setOther (by simp; omega) _, hb.setCell (by simp) _⟩
            exact (hrA.set 3 _).congr fun i _ => by
              by_cases h : i = 3
              · subst h
                rw [if_pos rfl, if_pos (by omega)]
                rw [HA.out, ← HXX.out]; rfl
              · rw [if_neg h]
                by_cases h2 : i < 3
                · rw [if_pos h2, if_pos (by omega)]
                · rw [if_neg h2, if_neg (by omega)]
          case measure => simp [intOf]
        · have hc : wr.cell? ⟨w.heap.size, 4, none⟩ = some (U32 ws.e) := hrA.cell (i := 4) (by omega)
          have hf := hrA.frozen 4
          have HA := Lib.hid (add32m ws.e e)
          have hix : ∀ w, (Instr.index 82 (.agg #[U32 a, U32 b, U32 c, U32 d, U32 e, U32 f, U32 g, U32 h]) (.int .i64 4)).run Tryd.prog w = .ok (U32 e) w := fun w => agg8_index ⟨a, b, c, d, e, f, g, h⟩ 4 (by omega) w
          rw [show ((4 : Nat) : Int) = 4 from rfl]
          generalize hxx : ws.e = xx at *
          have HXX := Lib.hid hxx
          clear hxx
          go_wp2_with fail
          go_roundw
          case rel =>
            refine ⟨5, by omega, rfl, ?_, hrC.setOther (by simp; omega) _, hb.setCell (by simp) _⟩
            exact (hrA.set 4 _).congr fun i _ => by
              by_cases h : i = 4
              · subst h
                rw [if_pos rfl, if_pos (by omega)]
                rw [HA.out, ← HXX.out]; rfl
              · rw [if_neg h]
                by_cases h2 : i < 4
                · rw [if_pos h2, if_pos (by omega)]
                · rw [if_neg h2, if_neg (by omega)]
          case measure => simp [intOf]
        · have hc : wr.cell? ⟨w.heap.size, 5, none⟩ = some (U32 ws.f) := hrA.cell (i := 5) (by omega)
          have hf := hrA.frozen 5
          have HA := Lib.hid (add32m ws.f f)
          have hix : ∀ w, (Instr.index 82 (.agg #[U32 a, U32 b, U32 c, U32 d, U32 e, U32 f, U32 g, U32 h]) (.int .i64 5)).run Tryd.prog w = .ok (U32 f) w := fun w => agg8_index ⟨a, b, c, d, e, f, g, h⟩ 5 (by omega) w
          rw [show ((5 : Nat) : Int) = 5 from rfl]
          generalize hxx : ws.f = xx at *
          have HXX := Lib.hid hxx
          clear hxx
          go_wp2_with fail
          go_roundw
          case rel =>
            refine ⟨6, by omega, rfl, ?_, hrC.setOther (by simp; omega) _, hb.setCell (by simp) _⟩
            exact (hrA.set 5 _).congr fun i _ => by
              by_cases h : i = 5
              · subst h
                rw [if_pos rfl, if_pos (by omega)]
                rw [HA.out, ← HXX.out]; rfl
              · rw [if_neg h]
                by_cases h2 : i < 5
                · rw [if_pos h2, if_pos (by omega)]
                · rw [if_neg h2, if_neg (by omega)]
          case measure => simp [intOf]
        · have hc : wr.cell? ⟨w.heap.size, 6, none⟩ = some (U32 ws.g) := hrA.cell (i := 6) (by omega)
          have hf := hrA.frozen 6
          have HA := Lib.hid (add32m ws.g g)
          have hix : ∀ w, (Instr.index 82 (.agg #[U32 a, U32 b, U32 c, U32 d, U32 e, U32 f, U32 g, U32 h]) (.int .i64 6)).run Tryd.prog w = .ok (U32 g) w := fun w => agg8_index ⟨a, b, c, d, e, f, g, h⟩ 6 (by omega) w
          rw [show ((6 : Nat) : Int) = 6 from rfl]
          generalize hxx : ws.g = xx at *
          have HXX := Lib.hid hxx
          clear hxx
          go_wp2_with fail
          go_roundw
          case rel =>
            refine ⟨7, by omega, rfl, ?_, hrC.setOther (by simp; omega) _, hb.setCell (by simp) _⟩
            exact (hrA.set 6 _).congr fun i _ => by
              by_cases h : i = 6
              · subst h
                rw [if_pos rfl, if_pos (by omega)]
                rw [HA.out, ← HXX.out]; rfl
              · rw [if_neg h]
                by_cases h2 : i < 6
                · rw [if_pos h2, if_pos (by omega)]
                · rw [if_neg h2, if_neg (by omega)]
          case measure => simp [intOf]
        · have hc : wr.cell? ⟨w.heap.size, 7, none⟩ = some (U32 ws.h) := hrA.cell (i := 7) (by omega)
          have hf := hrA.frozen 7
          have HA := Lib.hid (add32m ws.h h)
          have hix : ∀ w, (Instr.index 82 (.agg #[U32 a, U32 b, U32 c, U32 d, U32 e, U32 f, U32 g, U32 h]) (.int .i64 7)).run Tryd.prog w = .ok (U32 h) w := fun w => agg8_index ⟨a, b, c, d, e, f, g, h⟩ 7 (by omega) w
          rw [show ((7 : Nat) : Int) = 7 from rfl]
          generalize hxx : ws.h = xx at *
          have HXX := Lib.hid hxx
          clear hxx
          go_wp2_with fail
          go_roundw
          case rel =>
            refine ⟨8, by omega, rfl, ?_, hrC.setOther (by simp; omega) _, hb.setCell (by simp) _⟩
            exact (hrA.set 7 _).congr fun i _ => by
              by_cases h : i = 7
              · subst h
                rw [if_pos rfl, if_pos (by omega)]
                rw [HA.out, ← HXX.out]; rfl
              · rw [if_neg h]
                by_cases h2 : i < 7
                · rw [if_pos h2, if_pos (by omega)]
                · rw [if_neg h2, if_neg (by omega)]
          case measure => simp [intOf]
        · obtain ⟨cs, hcs, hn, hv⟩ := hrA
          obtain ⟨os, hos, hno, hvo⟩ := hrC
          have hv2 : ∀ i, i < 8 → cs[i]? = some (U32 ((ws.add ⟨a, b, c, d, e, f, g, h⟩).get i)) := fun i hi => by
            rw [add_get]
            rw [hv i hi]
            simp only [hi, if_true]
          obtain rfl := agg8_eq _ hn hv2
          rw [← HM.out] at hcs
          rw [show ((8 : Nat) : Int) = 8 from rfl]
          clear hv hvo hn hv2 HM HMX
          go_wp2_with (first | (refine wpList_load_row rfl 82 _ rfl w.heap.size rfl 82 (mixS ws blk).agg _ _ hcs Tryd.underlying82 rfl ?c1 ?_) | (refine wpList_store_row rfl 82 _ _ rfl (w.heap.size + 1 + 1) (mixS ws blk).agg rfl rfl 82 os hos ?c2 ?c3 ?c4 ?_))
          case c1 => rw [zsize8]; rfl
          case c2 => rw [zsize8]; rfl
          case c3 => rw [hno]; rfl
          case c4 => exact agg8_one (mixS ws blk)
          refine bodyPost_ret (results_cell_row rfl _ _ (w.heap.size + 1 + 1) 82 (mixS ws blk).agg _ _ rfl (setRow_heap _ _ _ _ _ _ hos) Tryd.underlying82 rfl (by rw [zsize8]; rfl)) rfl ?_
          exact ⟨rfl, below_setRow hb (by omega) _⟩
end Go.Proofs.YtibkhajhmncgkaaDoor
