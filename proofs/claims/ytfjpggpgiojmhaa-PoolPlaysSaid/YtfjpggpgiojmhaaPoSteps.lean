/- The closures of pool's steps. -/
import Derived.Test.YtfjpggpgiojmhaaPoMem
import Derived.OwnWalk
import Derived.Deep.RegionHeld3
namespace Go.Proofs.Ytfjpggpgiojmhaa
open Go.RowKit

theorem below_drew (w : World) : Below w.heap.size w w.drew := ⟨rfl, rfl, rfl, Nat.le_refl _, fun _ _ => rfl⟩
def PoolM.split (P : PoolM) : PoolM := { P with s := P.s + 1 }
def PoolM.collect (P : PoolM) : PoolM := { P with c := P.c + 1, W := fun j => if j = P.c then false else P.W j, m := P.m - 1 }
/-- Worker k's job waits. -/
def PoolM.back (P : PoolM) (k j : Nat) : PoolM := { P with held := P.held.set k (-1), W := fun i => if i = j then true else P.W i, m := P.m + 1 }
/-- Worker k takes the next job. -/
def PoolM.take (P : PoolM) (k : Nat) : PoolM := { P with held := P.held.set k (P.t : Nat), t := P.t + 1 }
/-- A block of one value. -/
def BoxAt (b : Nat) (w : World) (v : Value) : Prop := ∃ t, w.heap[b]? = some (.cells [v].toArray t (0, 0))
theorem BoxAt.cell {b : Nat} {w : World} {v : Value} (h : BoxAt b w v) : w.cell? ⟨b, 0, none⟩ = some v := by
  obtain ⟨t, h⟩ := h
  rw [cell_of_row w b _ _ _ _ h]; rfl
theorem BoxAt.lt {b : Nat} {w : World} {v : Value} (h : BoxAt b w v) : b < w.heap.size := by
  obtain ⟨t, h⟩ := h
  exact (Array.getElem?_eq_some_iff.1 h).1
theorem BoxAt.keep {b : Nat} {w w' : World} {v : Value} (h : BoxAt b w v) (hb : w'.heap[b]? = w.heap[b]?) : BoxAt b w' v := by
  obtain ⟨t, h⟩ := h
  exact ⟨t, hb.trans h⟩
theorem BoxAt.below {b : Nat} {w w' : World} {v : Value} (h : BoxAt b w v) (hb : Below w.heap.size w w') : BoxAt b w' v := h.keep (hb.block _ h.lt)
theorem BoxAt.made (w : World) (v : Value) (t : TypeId) : BoxAt w.heap.size (w.alloc (.cells #[v] t)) v := ⟨t, heap_alloc_last _ _⟩
theorem BoxAt.set {b g i : Nat} {w : World} {v u : Value} (h : BoxAt b w v) (hg : b ≠ g) : BoxAt b (w.setCell ⟨g, i, none⟩ u) v := h.keep (heap_setCell_other _ _ _ _ hg)
/-- A block beside the pool's. -/
def Apart (b B hb mb : Nat) : Prop := b ≠ B ∧ b ≠ hb ∧ b ≠ mb
abbrev PV (B : Nat) : Value := .pointer (some ⟨B, 0, none⟩)
theorem boxCells {w : World} {B : Nat} {a0 a1 a2 a3 a4 a5 a6 : Value} {t : TypeId} (h : w.heap[B]? = some (.cells [a0, a1, a2, a3, a4, a5, a6].toArray t (0, 0))) : w.cell? ⟨B, 0, none⟩ = some a0 ∧ w.cell? ⟨B, 1, none⟩ = some a1 ∧ w.cell? ⟨B, 2, none⟩ = some a2 ∧ w.cell? ⟨B, 3, none⟩ = some a3 ∧ w.cell? ⟨B, 4, none⟩ = some a4 ∧ w.cell? ⟨B, 5, none⟩ = some a5 ∧ w.cell? ⟨B, 6, none⟩ = some a6 := by
  refine ⟨?_, ?_, ?_, ?_, ?_, ?_, ?_⟩ <;> (rw [cell_of_row w B _ _ _ _ h]; rfl)
theorem step_delete {ops : Array Oper} {o : Oper} {a : Act} {K : Act → World → Prop} {Q : Exit → Act → World → Prop} (hgd : o.guard = none) (x y : Operand) (ho : o.op = .call { callee := .builtin .delete, args := #[x, y], argTypes := #[41, 3] })
    (w : World) (mb m i : Nat) (W : Nat → Bool) (hx : a.eval x = .map (some mb)) (hy : a.eval y = .int .i64 (i : Nat)) (hS : SetAt w mb W m) (hi : i ≤ 1000000) (hn : W i = true)
    (h : ∀ w', SetAt w' mb (fun j => if j = i then false else W j) (m - 1) → Turned w w' mb → K (a.put o.dst (.tuple #[])) w') : if Region.wanted o (yielded ops a.tmps) = true then Oper.wp Try.prog o a w K Q else K (a.put o.dst undef) w := by
  rw [if_pos (by simp [Region.wanted, hgd])]
  obtain ⟨w', hr, h1, h2⟩ := hS.del i hi hn o.type
  unfold Oper.wp execOp
  simp only [ho, resolve, invoke, builtin, Sem.run_bind, Sem.run_pure, Result.andThen_ok, List.map_toArray, List.map_cons, List.map_nil, hx, hy, hr]
  exact h w' h1 h2
theorem step_mapPut {ops : Array Oper} {o : Oper} {a : Act} {K : Act → World → Prop} {Q : Exit → Act → World → Prop} (hgd : o.guard = none) (x y z : Operand) (ho : o.op = .mapUpdate 41 x y z)
    (w : World) (mb m i : Nat) (W : Nat → Bool) (hx : a.eval x = .map (some mb)) (hy : a.eval y = .int .i64 (i : Nat)) (hz : a.eval z = .agg #[]) (hS : SetAt w mb W m) (hi : i ≤ 1000000) (hn : W i = false) (hm : m ≤ 1000000)
    (h : ∀ w', SetAt w' mb (fun j => if j = i then true else W j) (m + 1) → Turned w w' mb → K (a.put o.dst undef) w') : if Region.wanted o (yielded ops a.tmps) = true then Oper.wp Try.prog o a w K Q else K (a.put o.dst undef) w := by
  rw [if_pos (by simp [Region.wanted, hgd])]
  obtain ⟨w', hr, h1, h2⟩ := hS.put i hi hn hm
  unfold Oper.wp execOp
  simp only [ho, Sem.run_bind, Sem.run_pure, Result.andThen_ok, hx, hy, hz, hr]
  exact h w' h1 h2

set_option maxRecDepth 100000 in
set_option maxHeartbeats 1000000 in
theorem split1_any (b1 B hb mb : Nat) (P : PoolM) (w : World) (hx : BoxAt b1 w (PV B)) (hap : Apart b1 B hb mb) (hP : PoolAt w B hb mb P) (hs : P.s ≤ 10000) :
    Calls Try.prog 27 #[PV b1] w fun e w' => e = .returned (.int .i64 (P.s : Nat)) ∧ PoolAt w' B hb mb P.split ∧ PFr B hb mb w w' := by
  have HP := Lib.hid (show PoolAt (w.setCell ⟨B, 2, none⟩ (.int .i64 ((P.s + 1 : Nat) : Int))) B hb mb P.split from hP.setS (P.s + 1))
  obtain ⟨_, _, c2, _, _, _, _⟩ := hP.cells
  have f2 := hP.frozen 2
  have x1 := hx.cell
  have x2 := (hx.set (i := 2) (u := .int .i64 ((P.s + 1 : Nat) : Int)) hap.1).cell
  generalize P.s = s at *
  have hsi : (s : Int) ≤ 10000 := by omega
  go_enter Try.func27, Try.ntmps27
  go_wp2_with fail
  go_ret
  exact ⟨rfl, HP.out, PFr.set _ _⟩

set_option maxRecDepth 100000 in
set_option maxHeartbeats 1000000 in
theorem collect1_any (b1 B hb mb : Nat) (P : PoolM) (w : World) (hx : BoxAt b1 w (PV B)) (hap : Apart b1 B hb mb) (hP : PoolAt w B hb mb P) (hc : P.c ≤ 10000) (hW : P.W P.c = true) :
    Calls Try.prog 30 #[PV b1] w fun e w' => e = .returned (.int .i64 (P.c : Nat)) ∧ PoolAt w' B hb mb P.collect ∧ PFr B hb mb w w' := by
  have HC := Lib.hid (fun (wx : World) (h : wx.heap[B]? = w.heap[B]?) => (show wx.cell? ⟨B, 0, none⟩ = some (.int .i64 (P.J : Nat)) ∧ wx.cell? ⟨B, 1, none⟩ = some (.int .i64 (P.R : Nat)) ∧ wx.cell? ⟨B, 2, none⟩ = some (.int .i64 (P.s : Nat)) ∧ wx.cell? ⟨B, 3, none⟩ = some (.int .i64 (P.t : Nat)) ∧ wx.cell? ⟨B, 4, none⟩ = some (.int .i64 (P.c : Nat)) ∧ wx.cell? ⟨B, 5, none⟩ = some (.slice (some ⟨hb, 0, none⟩) P.held.length P.held.length) ∧ wx.cell? ⟨B, 6, none⟩ = some (.map (some mb)) from boxCells (h.trans hP.box)))
  have HX1 := Lib.hid (fun (wx : World) (h : wx.heap[b1]? = w.heap[b1]?) => (hx.keep h).cell)
  have HPO := Lib.hid hP
  have HXO := Lib.hid hx
  have hci : (P.c : Int) ≤ 10000 := by omega
  have HCI := Lib.hid hci
  go_enter Try.func30, Try.ntmps30
  go_wp2_with fail
  refine wp_region_held_drew (S := fun w2 => w2.heap[B]? = w.drew.heap[B]? ∧ w2.heap[b1]? = w.drew.heap[b1]?) (by kernel_rfl) ⟨rfl, rfl⟩ (fun hS => ?_)
  refine wpAnyH_take (i := 0) (oi := { dst := some 2, op := Op.load 24 (Operand.tmp 0), type := 24, pos := "pool.go:146", after := #[], guard := none }) (v := ?vco1) rfl (by kernel_rfl) (by kernel_rfl) (by kernel_rfl) (fun _ _ _ h => h) (Or.inl ⟨by rfl, ?yco1⟩) hS ?_
  case yco1 =>
    intro w hSw
    obtain ⟨_, _, _, i3, i4, i5, i6⟩ := HC.out w hSw.1
    have j1 := HX1.out w hSw.2
    go_simp; all_goals (with_reducible rfl)
  simp only [Act.put, List.setIfInBounds_toArray, List.set_cons_zero, List.set_cons_succ]
  refine wpAnyH_take (i := 1) (oi := { dst := some 3, op := Op.nilCheck (Operand.tmp 2), type := 0, pos := "pool.go:146", after := #[{ on := 0, ground := Ground.data }], guard := none }) (v := ?vco2) rfl (by kernel_rfl) (by kernel_rfl) (by kernel_rfl) (fun _ _ _ h => h) (Or.inl ⟨by rfl, ?yco2⟩) hS ?_
  case yco2 =>
    intro w hSw
    go_simp; all_goals (with_reducible rfl)
  simp only [Act.put, List.setIfInBounds_toArray, List.set_cons_zero, List.set_cons_succ]
  refine wpAnyH_take (i := 2) (oi := { dst := some 4, op := Op.fieldAddr 43 (Operand.tmp 3) 6, type := 0, pos := "pool.go:146", after := #[{ on := 1, ground := Ground.data }], guard := none }) (v := ?vco3) rfl (by kernel_rfl) (by kernel_rfl) (by kernel_rfl) (fun _ _ _ h => h) (Or.inl ⟨by rfl, ?yco3⟩) hS ?_
  case yco3 =>
    intro w hSw
    go_simp; all_goals (with_reducible rfl)
  simp only [Act.put, List.setIfInBounds_toArray, List.set_cons_zero, List.set_cons_succ]
  refine wpAnyH_take (i := 3) (oi := { dst := some 5, op := Op.load 41 (Operand.tmp 4), type := 41, pos := "pool.go:146", after := #[{ on := 2, ground := Ground.data }], guard := none }) (v := ?vco4) rfl (by kernel_rfl) (by kernel_rfl) (by kernel_rfl) (fun _ _ _ h => h) (Or.inl ⟨by rfl, ?yco4⟩) hS ?_
  case yco4 =>
    intro w hSw
    obtain ⟨_, _, _, i3, i4, i5, i6⟩ := HC.out w hSw.1
    have j1 := HX1.out w hSw.2
    go_simp; all_goals (with_reducible rfl)
  simp only [Act.put, List.setIfInBounds_toArray, List.set_cons_zero, List.set_cons_succ]
  refine wpAnyH_take (i := 4) (oi := { dst := some 6, op := Op.load 24 (Operand.tmp 0), type := 24, pos := "pool.go:146", after := #[], guard := none }) (v := ?vco5) rfl (by kernel_rfl) (by kernel_rfl) (by kernel_rfl) (fun _ _ _ h => h) (Or.inl ⟨by rfl, ?yco5⟩) hS ?_
  case yco5 =>
    intro w hSw
    obtain ⟨_, _, _, i3, i4, i5, i6⟩ := HC.out w hSw.1
    have j1 := HX1.out w hSw.2
    go_simp; all_goals (with_reducible rfl)
  simp only [Act.put, List.setIfInBounds_toArray, List.set_cons_zero, List.set_cons_succ]
  refine wpAnyH_take (i := 5) (oi := { dst := some 7, op := Op.nilCheck (Operand.tmp 6), type := 0, pos := "pool.go:146", after := #[{ on := 4, ground := Ground.data }], guard := none }) (v := ?vco6) rfl (by kernel_rfl) (by kernel_rfl) (by kernel_rfl) (fun _ _ _ h => h) (Or.inl ⟨by rfl, ?yco6⟩) hS ?_
  case yco6 =>
    intro w hSw
    go_simp; all_goals (with_reducible rfl)
  simp only [Act.put, List.setIfInBounds_toArray, List.set_cons_zero, List.set_cons_succ]
  refine wpAnyH_take (i := 6) (oi := { dst := some 8, op := Op.fieldAddr 43 (Operand.tmp 7) 4, type := 0, pos := "pool.go:146", after := #[{ on := 5, ground := Ground.data }], guard := none }) (v := ?vco7) rfl (by kernel_rfl) (by kernel_rfl) (by kernel_rfl) (fun _ _ _ h => h) (Or.inl ⟨by rfl, ?yco7⟩) hS ?_
  case yco7 =>
    intro w hSw
    go_simp; all_goals (with_reducible rfl)
  simp only [Act.put, List.setIfInBounds_toArray, List.set_cons_zero, List.set_cons_succ]
  refine wpAnyH_take (i := 7) (oi := { dst := some 9, op := Op.load 3 (Operand.tmp 8), type := 3, pos := "pool.go:146", after := #[{ on := 6, ground := Ground.data }], guard := none }) (v := ?vco8) rfl (by kernel_rfl) (by kernel_rfl) (by kernel_rfl) (fun _ _ _ h => h) (Or.inl ⟨by rfl, ?yco8⟩) hS ?_
  case yco8 =>
    intro w hSw
    obtain ⟨_, _, _, i3, i4, i5, i6⟩ := HC.out w hSw.1
    have j1 := HX1.out w hSw.2
    go_simp; all_goals (with_reducible rfl)
  simp only [Act.put, List.setIfInBounds_toArray, List.set_cons_zero, List.set_cons_succ]
  refine wpAnyH_ready (rs := [8]) (by kernel_rfl) (by simp) ?_
  refine (AllReadyH.cons (o := { dst := none, op := Op.call { callee := Callee.builtin Builtin.delete, args := #[Operand.tmp 5, Operand.tmp 9], argTypes := #[41, 3] }, type := 0, pos := "pool.go:146", after := #[{ on := 3, ground := Ground.data }, { on := 7, ground := Ground.data }], guard := none }) rfl (fun K hK => ?_) AllReadyH.nil)
  refine step_delete rfl (.tmp 5) (.tmp 9) rfl w.drew mb P.m P.c P.W rfl rfl (HPO.out.set.keep rfl) (by omega) hW ?_
  intro w3 hs3 ht3
  have g3 : w3.heap[B]? = w.drew.heap[B]? ∧ w3.heap[b1]? = w.drew.heap[b1]? := ⟨ht3.2.2.2.2 _ HPO.out.ne2, ht3.2.2.2.2 _ hap.2.2⟩
  simp only [Act.put]
  refine hK.out _ _ g3 (fun _ => ?_)
  clear hK K
  refine wpAnyH_done (by kernel_rfl) ?_ _
  have hP3 : PoolAt w3 B hb mb { P with W := fun j => if j = P.c then false else P.W j, m := P.m - 1 } := (HPO.out.keep (w' := w.drew) rfl rfl rfl).turned ht3 hs3
  have hx3 : BoxAt b1 w3 (PV B) := HXO.out.keep g3.2
  have HFR : Hid (PFr B hb mb w w3) := Lib.hid ((PFr.of (below_drew w)).trans (PFr.turned ht3))
  have HP := Lib.hid (show PoolAt (w3.setCell ⟨B, 4, none⟩ (.int .i64 ((P.c + 1 : Nat) : Int))) B hb mb P.collect from hP3.setC (P.c + 1))
  obtain ⟨_, _, _, _, c4, _, _⟩ := hP3.cells
  have f4 := hP3.frozen 4
  have x1 := hx3.cell
  have x2 := (hx3.set (i := 4) (u := .int .i64 ((P.c + 1 : Nat) : Int)) hap.1).cell
  simp only at c4
  clear hs3 ht3 g3 hP3 hx3
  go_wp2_with fail
  go_ret
  exact ⟨rfl, HP.out, HFR.out.trans (PFr.set _ _)⟩

set_option maxRecDepth 100000 in
set_option maxHeartbeats 1000000 in
theorem back1_any (b1 b2 b3 B hb mb k j : Nat) (P : PoolM) (w : World) (hx : BoxAt b1 w (PV B)) (hx2 : BoxAt b2 w (.int .i64 (k : Nat))) (hx3 : BoxAt b3 w (.int .i64 (j : Nat))) (hap : Apart b1 B hb mb) (hap2 : Apart b2 B hb mb) (hap3 : Apart b3 B hb mb) (hP : PoolAt w B hb mb P)
    (hk : k < P.held.length) (hl : P.held.length ≤ 64) (hj : j ≤ 10000) (hm : P.m ≤ 10000) (hW : P.W j = false) :
    Calls Try.prog 28 #[PV b1, PV b2, PV b3] w fun e w' => e = .returned (.int .i64 (j : Nat)) ∧ PoolAt w' B hb mb (P.back k j) ∧ PFr B hb mb w w' := by
  have HC := Lib.hid (fun (wx : World) (h : wx.heap[B]? = w.heap[B]?) => (show wx.cell? ⟨B, 0, none⟩ = some (.int .i64 (P.J : Nat)) ∧ wx.cell? ⟨B, 1, none⟩ = some (.int .i64 (P.R : Nat)) ∧ wx.cell? ⟨B, 2, none⟩ = some (.int .i64 (P.s : Nat)) ∧ wx.cell? ⟨B, 3, none⟩ = some (.int .i64 (P.t : Nat)) ∧ wx.cell? ⟨B, 4, none⟩ = some (.int .i64 (P.c : Nat)) ∧ wx.cell? ⟨B, 5, none⟩ = some (.slice (some ⟨hb, 0, none⟩) P.held.length P.held.length) ∧ wx.cell? ⟨B, 6, none⟩ = some (.map (some mb)) from boxCells (h.trans hP.box)))
  have HX1 := Lib.hid (fun (wx : World) (h : wx.heap[b1]? = w.heap[b1]?) => (hx.keep h).cell)
  have HX2 := Lib.hid (fun (wx : World) (h : wx.heap[b2]? = w.heap[b2]?) => (hx2.keep h).cell)
  have HX3 := Lib.hid (fun (wx : World) (h : wx.heap[b3]? = w.heap[b3]?) => (hx3.keep h).cell)
  have HPO := Lib.hid hP
  have HXO := Lib.hid hx3
  have hki : (k : Int) < (P.held.length : Int) := by omega
  have hli : (P.held.length : Int) ≤ 64 := by omega
  have hji : (j : Int) ≤ 10000 := by omega
  have HK := Lib.hid (And.intro hki hli)
  obtain ⟨r1, r2⟩ := hP.rowAt k hk
  have g3 : (w.setCell ⟨hb, k, none⟩ (.int .i64 (-1))).drew.heap[B]? = w.drew.heap[B]? ∧ (w.setCell ⟨hb, k, none⟩ (.int .i64 (-1))).drew.heap[b1]? = w.drew.heap[b1]? ∧ (w.setCell ⟨hb, k, none⟩ (.int .i64 (-1))).drew.heap[b2]? = w.drew.heap[b2]? ∧ (w.setCell ⟨hb, k, none⟩ (.int .i64 (-1))).drew.heap[b3]? = w.drew.heap[b3]? :=
    ⟨heap_setCell_other _ _ _ _ hP.ne1, heap_setCell_other _ _ _ _ hap.2.1, heap_setCell_other _ _ _ _ hap2.2.1, heap_setCell_other _ _ _ _ hap3.2.1⟩
  go_enter Try.func28, Try.ntmps28
  go_wp2_with fail
  refine wp_region_held_drew (S := fun w2 => w2.heap[B]? = w.drew.heap[B]? ∧ w2.heap[b1]? = w.drew.heap[b1]? ∧ w2.heap[b2]? = w.drew.heap[b2]? ∧ w2.heap[b3]? = w.drew.heap[b3]?) (by kernel_rfl) ⟨rfl, rfl, rfl, rfl⟩ (fun hS => ?_)
  refine wpAnyH_take (i := 0) (oi := { dst := some 4, op := Op.load 24 (Operand.tmp 0), type := 24, pos := "pool.go:126", after := #[], guard := none }) (v := ?vba9) rfl (by kernel_rfl) (by kernel_rfl) (by kernel_rfl) (fun _ _ _ h => h) (Or.inl ⟨by rfl, ?yba9⟩) hS ?_
  case yba9 =>
    intro w hSw
    obtain ⟨_, _, _, i3, i4, i5, i6⟩ := HC.out w hSw.1
    have j1 := HX1.out w hSw.2.1
    have j2 := HX2.out w hSw.2.2.1
    have j3 := HX3.out w hSw.2.2.2
    go_simp; all_goals (with_reducible rfl)
  simp only [Act.put, List.setIfInBounds_toArray, List.set_cons_zero, List.set_cons_succ]
  refine wpAnyH_take (i := 1) (oi := { dst := some 5, op := Op.nilCheck (Operand.tmp 4), type := 0, pos := "pool.go:126", after := #[{ on := 0, ground := Ground.data }], guard := none }) (v := ?vba10) rfl (by kernel_rfl) (by kernel_rfl) (by kernel_rfl) (fun _ _ _ h => h) (Or.inl ⟨by rfl, ?yba10⟩) hS ?_
  case yba10 =>
    intro w hSw
    go_simp; all_goals (with_reducible rfl)
  simp only [Act.put, List.setIfInBounds_toArray, List.set_cons_zero, List.set_cons_succ]
  refine wpAnyH_take (i := 2) (oi := { dst := some 6, op := Op.fieldAddr 43 (Operand.tmp 5) 5, type := 0, pos := "pool.go:126", after := #[{ on := 1, ground := Ground.data }], guard := none }) (v := ?vba11) rfl (by kernel_rfl) (by kernel_rfl) (by kernel_rfl) (fun _ _ _ h => h) (Or.inl ⟨by rfl, ?yba11⟩) hS ?_
  case yba11 =>
    intro w hSw
    go_simp; all_goals (with_reducible rfl)
  simp only [Act.put, List.setIfInBounds_toArray, List.set_cons_zero, List.set_cons_succ]
  refine wpAnyH_take (i := 3) (oi := { dst := some 7, op := Op.load 22 (Operand.tmp 6), type := 22, pos := "pool.go:126", after := #[{ on := 2, ground := Ground.data }], guard := none }) (v := ?vba12) rfl (by kernel_rfl) (by kernel_rfl) (by kernel_rfl) (fun _ _ _ h => h) (Or.inl ⟨by rfl, ?yba12⟩) hS ?_
  case yba12 =>
    intro w hSw
    obtain ⟨_, _, _, i3, i4, i5, i6⟩ := HC.out w hSw.1
    have j1 := HX1.out w hSw.2.1
    have j2 := HX2.out w hSw.2.2.1
    have j3 := HX3.out w hSw.2.2.2
    go_simp; all_goals (with_reducible rfl)
  simp only [Act.put, List.setIfInBounds_toArray, List.set_cons_zero, List.set_cons_succ]
  refine wpAnyH_take (i := 4) (oi := { dst := some 8, op := Op.load 3 (Operand.tmp 1), type := 3, pos := "pool.go:126", after := #[], guard := none }) (v := ?vba13) rfl (by kernel_rfl) (by kernel_rfl) (by kernel_rfl) (fun _ _ _ h => h) (Or.inl ⟨by rfl, ?yba13⟩) hS ?_
  case yba13 =>
    intro w hSw
    obtain ⟨_, _, _, i3, i4, i5, i6⟩ := HC.out w hSw.1
    have j1 := HX1.out w hSw.2.1
    have j2 := HX2.out w hSw.2.2.1
    have j3 := HX3.out w hSw.2.2.2
    go_simp; all_goals (with_reducible rfl)
  simp only [Act.put, List.setIfInBounds_toArray, List.set_cons_zero, List.set_cons_succ]
  refine wpAnyH_take (i := 5) (oi := { dst := some 9, op := Op.indexAddr 22 (Operand.tmp 7) (Operand.tmp 8), type := 0, pos := "pool.go:126", after := #[{ on := 3, ground := Ground.data }, { on := 4, ground := Ground.data }, { on := 0, ground := Ground.phase }, { on := 1, ground := Ground.phase }, { on := 2, ground := Ground.phase }, { on := 3, ground := Ground.phase }, { on := 4, ground := Ground.phase }], guard := none }) (v := ?vba14) rfl (by kernel_rfl) (by kernel_rfl) (by kernel_rfl) (fun _ _ _ h => h) (Or.inl ⟨by rfl, ?yba14⟩) hS ?_
  case yba14 =>
    intro w hSw
    obtain ⟨_, _, _, i3, i4, i5, i6⟩ := HC.out w hSw.1
    have j1 := HX1.out w hSw.2.1
    have j2 := HX2.out w hSw.2.2.1
    have j3 := HX3.out w hSw.2.2.2
    have hk1 := HK.out.1
    have hk2 := HK.out.2
    go_simp; all_goals (with_reducible rfl)
  simp only [Act.put, List.setIfInBounds_toArray, List.set_cons_zero, List.set_cons_succ]
  refine wpAnyH_ready (rs := [6]) (by kernel_rfl) (by simp) ?_
  refine (AllReadyH.cons (o := { dst := none, op := Op.store 3 (Operand.tmp 9) (Operand.const (Value.int IntKind.i64 (-1))), type := 0, pos := "pool.go:126", after := #[{ on := 5, ground := Ground.data }, { on := 0, ground := Ground.phase }, { on := 1, ground := Ground.phase }, { on := 2, ground := Ground.phase }, { on := 3, ground := Ground.phase }, { on := 4, ground := Ground.phase }], guard := none }) rfl (fun K hK => ?_) AllReadyH.nil)
  go_simp
  refine hK.out _ _ g3 (fun _ => ?_)
  clear hK K
  refine wpAnyH_done (by kernel_rfl) ?_ _
  have hP1 : PoolAt (w.setCell ⟨hb, k, none⟩ (.int .i64 (-1))).drew B hb mb { P with held := P.held.set k (-1) } := (HPO.out.setH k (-1)).keep rfl rfl rfl
  have hfr1 : PFr B hb mb w (w.setCell ⟨hb, k, none⟩ (.int .i64 (-1))).drew := (PFr.setH w _).trans (PFr.of (below_drew _))
  have HY1 := Lib.hid (HX1.out _ g3.2.1)
  have HY3 := Lib.hid (HX3.out _ g3.2.2.2)
  have HYC := Lib.hid (HC.out _ g3.1)
  have hx13 : BoxAt b3 (w.setCell ⟨hb, k, none⟩ (.int .i64 (-1))).drew (.int .i64 (j : Nat)) := hx3.keep g3.2.2.2
  have hx11 : BoxAt b1 (w.setCell ⟨hb, k, none⟩ (.int .i64 (-1))).drew (PV B) := hx.keep g3.2.1
  clear HC HX1 HX2 HX3 HK r1 r2 g3
  generalize (w.setCell ⟨hb, k, none⟩ (.int .i64 (-1))).drew = w1 at *
  have HC := Lib.hid (fun (wx : World) (h : wx.heap[B]? = w1.heap[B]?) => boxCells (h.trans hP1.box))
  have HX1 := Lib.hid (fun (wx : World) (h : wx.heap[b1]? = w1.heap[b1]?) => (hx11.keep h).cell)
  have HX3 := Lib.hid (fun (wx : World) (h : wx.heap[b3]? = w1.heap[b3]?) => (hx13.keep h).cell)
  simp only at HC
  clear HY1 HY3 HYC
  go_wp2_with fail
  refine wp_region_held_drew (S := fun w2 => w2.heap[B]? = w1.drew.heap[B]? ∧ w2.heap[b1]? = w1.drew.heap[b1]? ∧ w2.heap[b3]? = w1.drew.heap[b3]?) (by kernel_rfl) ⟨rfl, rfl, rfl⟩ (fun hS => ?_)
  refine wpAnyH_take (i := 0) (oi := { dst := some 10, op := Op.load 24 (Operand.tmp 0), type := 24, pos := "pool.go:127", after := #[], guard := none }) (v := ?vbb15) rfl (by kernel_rfl) (by kernel_rfl) (by kernel_rfl) (fun _ _ _ h => h) (Or.inl ⟨by rfl, ?ybb15⟩) hS ?_
  case ybb15 =>
    intro w hSw
    obtain ⟨_, _, _, i3, i4, i5, i6⟩ := HC.out w hSw.1
    have j1 := HX1.out w hSw.2.1
    have j3 := HX3.out w hSw.2.2
    go_simp; all_goals (with_reducible rfl)
  simp only [Act.put, List.setIfInBounds_toArray, List.set_cons_zero, List.set_cons_succ]
  refine wpAnyH_take (i := 1) (oi := { dst := some 11, op := Op.nilCheck (Operand.tmp 10), type := 0, pos := "pool.go:127", after := #[{ on := 0, ground := Ground.data }], guard := none }) (v := ?vbb16) rfl (by kernel_rfl) (by kernel_rfl) (by kernel_rfl) (fun _ _ _ h => h) (Or.inl ⟨by rfl, ?ybb16⟩) hS ?_
  case ybb16 =>
    intro w hSw
    go_simp; all_goals (with_reducible rfl)
  simp only [Act.put, List.setIfInBounds_toArray, List.set_cons_zero, List.set_cons_succ]
  refine wpAnyH_take (i := 2) (oi := { dst := some 12, op := Op.fieldAddr 43 (Operand.tmp 11) 6, type := 0, pos := "pool.go:127", after := #[{ on := 1, ground := Ground.data }], guard := none }) (v := ?vbb17) rfl (by kernel_rfl) (by kernel_rfl) (by kernel_rfl) (fun _ _ _ h => h) (Or.inl ⟨by rfl, ?ybb17⟩) hS ?_
  case ybb17 =>
    intro w hSw
    go_simp; all_goals (with_reducible rfl)
  simp only [Act.put, List.setIfInBounds_toArray, List.set_cons_zero, List.set_cons_succ]
  refine wpAnyH_take (i := 3) (oi := { dst := some 13, op := Op.load 41 (Operand.tmp 12), type := 41, pos := "pool.go:127", after := #[{ on := 2, ground := Ground.data }], guard := none }) (v := ?vbb18) rfl (by kernel_rfl) (by kernel_rfl) (by kernel_rfl) (fun _ _ _ h => h) (Or.inl ⟨by rfl, ?ybb18⟩) hS ?_
  case ybb18 =>
    intro w hSw
    obtain ⟨_, _, _, i3, i4, i5, i6⟩ := HC.out w hSw.1
    have j1 := HX1.out w hSw.2.1
    have j3 := HX3.out w hSw.2.2
    go_simp; all_goals (with_reducible rfl)
  simp only [Act.put, List.setIfInBounds_toArray, List.set_cons_zero, List.set_cons_succ]
  refine wpAnyH_take (i := 4) (oi := { dst := some 14, op := Op.load 3 (Operand.tmp 2), type := 3, pos := "pool.go:127", after := #[], guard := none }) (v := ?vbb19) rfl (by kernel_rfl) (by kernel_rfl) (by kernel_rfl) (fun _ _ _ h => h) (Or.inl ⟨by rfl, ?ybb19⟩) hS ?_
  case ybb19 =>
    intro w hSw
    obtain ⟨_, _, _, i3, i4, i5, i6⟩ := HC.out w hSw.1
    have j1 := HX1.out w hSw.2.1
    have j3 := HX3.out w hSw.2.2
    go_simp; all_goals (with_reducible rfl)
  simp only [Act.put, List.setIfInBounds_toArray, List.set_cons_zero, List.set_cons_succ]
  refine wpAnyH_take (i := 5) (oi := { dst := some 15, op := Op.build 48 #[], type := 48, pos := "pool.go:127", after := #[], guard := none }) (v := ?vbb20) rfl (by kernel_rfl) (by kernel_rfl) (by kernel_rfl) (fun _ _ _ h => h) (Or.inl ⟨by rfl, ?ybb20⟩) hS ?_
  case ybb20 =>
    intro w hSw
    go_simp; all_goals (with_reducible rfl)
  simp only [Act.put, List.setIfInBounds_toArray, List.set_cons_zero, List.set_cons_succ]
  refine wpAnyH_ready (rs := [6]) (by kernel_rfl) (by simp) ?_
  refine (AllReadyH.cons (o := { dst := none, op := Op.mapUpdate 41 (Operand.tmp 13) (Operand.tmp 14) (Operand.tmp 15), type := 0, pos := "pool.go:127", after := #[{ on := 3, ground := Ground.data }, { on := 4, ground := Ground.data }, { on := 5, ground := Ground.data }, { on := 0, ground := Ground.phase }, { on := 1, ground := Ground.phase }, { on := 2, ground := Ground.phase }, { on := 3, ground := Ground.phase }, { on := 4, ground := Ground.phase }, { on := 5, ground := Ground.phase }], guard := none }) rfl (fun K hK => ?_) AllReadyH.nil)
  refine step_mapPut rfl (.tmp 13) (.tmp 14) (.tmp 15) rfl w1.drew mb P.m j P.W rfl rfl rfl (hP1.set.keep rfl) (by omega) hW (by omega) ?_
  intro w3 hs3 ht3
  have g3 : w3.heap[B]? = w1.drew.heap[B]? ∧ w3.heap[b1]? = w1.drew.heap[b1]? ∧ w3.heap[b3]? = w1.drew.heap[b3]? := ⟨ht3.2.2.2.2 _ HPO.out.ne2, ht3.2.2.2.2 _ hap.2.2, ht3.2.2.2.2 _ hap3.2.2⟩
  simp only [Act.put]
  refine hK.out _ _ g3 (fun _ => ?_)
  clear hK K
  refine wpAnyH_done (by kernel_rfl) ?_ _
  have hP3 : PoolAt w3 B hb mb (P.back k j) := (hP1.keep (w' := w1.drew) rfl rfl rfl).turned ht3 hs3
  have HFR : Hid (PFr B hb mb w w3) := Lib.hid ((hfr1.trans (PFr.of (below_drew w1))).trans (PFr.turned ht3))
  have x3 := (hx13.keep (w' := w3) g3.2.2).cell
  have HP := Lib.hid hP3
  clear hs3 ht3 g3 hP3
  go_wp2_with fail
  go_ret
  exact ⟨rfl, HP.out, HFR.out⟩

set_option maxRecDepth 100000 in
set_option maxHeartbeats 1000000 in
theorem take1_any (b1 b2 B hb mb k : Nat) (P : PoolM) (w : World) (hx : BoxAt b1 w (PV B)) (hx2 : BoxAt b2 w (.int .i64 (k : Nat))) (hap : Apart b1 B hb mb) (hap2 : Apart b2 B hb mb) (hP : PoolAt w B hb mb P)
    (hk : k < P.held.length) (hl : P.held.length ≤ 64) (ht : P.t ≤ 10000) :
    Calls Try.prog 29 #[PV b1, PV b2] w fun e w' => e = .returned (.int .i64 (P.t : Nat)) ∧ PoolAt w' B hb mb (P.take k) ∧ PFr B hb mb w w' := by
  have HC := Lib.hid (fun (wx : World) (h : wx.heap[B]? = w.heap[B]?) => (show wx.cell? ⟨B, 0, none⟩ = some (.int .i64 (P.J : Nat)) ∧ wx.cell? ⟨B, 1, none⟩ = some (.int .i64 (P.R : Nat)) ∧ wx.cell? ⟨B, 2, none⟩ = some (.int .i64 (P.s : Nat)) ∧ wx.cell? ⟨B, 3, none⟩ = some (.int .i64 (P.t : Nat)) ∧ wx.cell? ⟨B, 4, none⟩ = some (.int .i64 (P.c : Nat)) ∧ wx.cell? ⟨B, 5, none⟩ = some (.slice (some ⟨hb, 0, none⟩) P.held.length P.held.length) ∧ wx.cell? ⟨B, 6, none⟩ = some (.map (some mb)) from boxCells (h.trans hP.box)))
  have HX1 := Lib.hid (fun (wx : World) (h : wx.heap[b1]? = w.heap[b1]?) => (hx.keep h).cell)
  have HX2 := Lib.hid (fun (wx : World) (h : wx.heap[b2]? = w.heap[b2]?) => (hx2.keep h).cell)
  have HPO := Lib.hid hP
  have hki : (k : Int) < (P.held.length : Int) := by omega
  have hli : (P.held.length : Int) ≤ 64 := by omega
  have hti : (P.t : Int) ≤ 10000 := by omega
  have HK := Lib.hid (And.intro hki hli)
  obtain ⟨r1, r2⟩ := hP.rowAt k hk
  have g3 : (w.setCell ⟨hb, k, none⟩ (.int .i64 (P.t : Nat))).drew.heap[B]? = w.drew.heap[B]? ∧ (w.setCell ⟨hb, k, none⟩ (.int .i64 (P.t : Nat))).drew.heap[b1]? = w.drew.heap[b1]? ∧ (w.setCell ⟨hb, k, none⟩ (.int .i64 (P.t : Nat))).drew.heap[b2]? = w.drew.heap[b2]? :=
    ⟨heap_setCell_other _ _ _ _ hP.ne1, heap_setCell_other _ _ _ _ hap.2.1, heap_setCell_other _ _ _ _ hap2.2.1⟩
  go_enter Try.func29, Try.ntmps29
  go_wp2_with fail
  refine wp_region_held_drew (S := fun w2 => w2.heap[B]? = w.drew.heap[B]? ∧ w2.heap[b1]? = w.drew.heap[b1]? ∧ w2.heap[b2]? = w.drew.heap[b2]?) (by kernel_rfl) ⟨rfl, rfl, rfl⟩ (fun hS => ?_)
  refine wpAnyH_take (i := 0) (oi := { dst := some 3, op := Op.load 24 (Operand.tmp 0), type := 24, pos := "pool.go:135", after := #[], guard := none }) (v := ?vta21) rfl (by kernel_rfl) (by kernel_rfl) (by kernel_rfl) (fun _ _ _ h => h) (Or.inl ⟨by rfl, ?yta21⟩) hS ?_
  case yta21 =>
    intro w hSw
    obtain ⟨_, _, _, i3, i4, i5, i6⟩ := HC.out w hSw.1
    have j1 := HX1.out w hSw.2.1
    have j2 := HX2.out w hSw.2.2
    have hk1 := HK.out.1
    have hk2 := HK.out.2
    go_simp; all_goals (with_reducible rfl)
  simp only [Act.put, List.setIfInBounds_toArray, List.set_cons_zero, List.set_cons_succ]
  refine wpAnyH_take (i := 1) (oi := { dst := some 4, op := Op.nilCheck (Operand.tmp 3), type := 0, pos := "pool.go:135", after := #[{ on := 0, ground := Ground.data }], guard := none }) (v := ?vta22) rfl (by kernel_rfl) (by kernel_rfl) (by kernel_rfl) (fun _ _ _ h => h) (Or.inl ⟨by rfl, ?yta22⟩) hS ?_
  case yta22 =>
    intro w hSw
    go_simp; all_goals (with_reducible rfl)
  simp only [Act.put, List.setIfInBounds_toArray, List.set_cons_zero, List.set_cons_succ]
  refine wpAnyH_take (i := 2) (oi := { dst := some 5, op := Op.fieldAddr 43 (Operand.tmp 4) 5, type := 0, pos := "pool.go:135", after := #[{ on := 1, ground := Ground.data }], guard := none }) (v := ?vta23) rfl (by kernel_rfl) (by kernel_rfl) (by kernel_rfl) (fun _ _ _ h => h) (Or.inl ⟨by rfl, ?yta23⟩) hS ?_
  case yta23 =>
    intro w hSw
    go_simp; all_goals (with_reducible rfl)
  simp only [Act.put, List.setIfInBounds_toArray, List.set_cons_zero, List.set_cons_succ]
  refine wpAnyH_take (i := 3) (oi := { dst := some 6, op := Op.load 22 (Operand.tmp 5), type := 22, pos := "pool.go:135", after := #[{ on := 2, ground := Ground.data }], guard := none }) (v := ?vta24) rfl (by kernel_rfl) (by kernel_rfl) (by kernel_rfl) (fun _ _ _ h => h) (Or.inl ⟨by rfl, ?yta24⟩) hS ?_
  case yta24 =>
    intro w hSw
    obtain ⟨_, _, _, i3, i4, i5, i6⟩ := HC.out w hSw.1
    have j1 := HX1.out w hSw.2.1
    have j2 := HX2.out w hSw.2.2
    have hk1 := HK.out.1
    have hk2 := HK.out.2
    go_simp; all_goals (with_reducible rfl)
  simp only [Act.put, List.setIfInBounds_toArray, List.set_cons_zero, List.set_cons_succ]
  refine wpAnyH_take (i := 4) (oi := { dst := some 7, op := Op.load 3 (Operand.tmp 1), type := 3, pos := "pool.go:135", after := #[], guard := none }) (v := ?vta25) rfl (by kernel_rfl) (by kernel_rfl) (by kernel_rfl) (fun _ _ _ h => h) (Or.inl ⟨by rfl, ?yta25⟩) hS ?_
  case yta25 =>
    intro w hSw
    obtain ⟨_, _, _, i3, i4, i5, i6⟩ := HC.out w hSw.1
    have j1 := HX1.out w hSw.2.1
    have j2 := HX2.out w hSw.2.2
    have hk1 := HK.out.1
    have hk2 := HK.out.2
    go_simp; all_goals (with_reducible rfl)
  simp only [Act.put, List.setIfInBounds_toArray, List.set_cons_zero, List.set_cons_succ]
  refine wpAnyH_take (i := 5) (oi := { dst := some 8, op := Op.load 24 (Operand.tmp 0), type := 24, pos := "pool.go:135", after := #[], guard := none }) (v := ?vta26) rfl (by kernel_rfl) (by kernel_rfl) (by kernel_rfl) (fun _ _ _ h => h) (Or.inl ⟨by rfl, ?yta26⟩) hS ?_
  case yta26 =>
    intro w hSw
    obtain ⟨_, _, _, i3, i4, i5, i6⟩ := HC.out w hSw.1
    have j1 := HX1.out w hSw.2.1
    have j2 := HX2.out w hSw.2.2
    have hk1 := HK.out.1
    have hk2 := HK.out.2
    go_simp; all_goals (with_reducible rfl)
  simp only [Act.put, List.setIfInBounds_toArray, List.set_cons_zero, List.set_cons_succ]
  refine wpAnyH_take (i := 6) (oi := { dst := some 9, op := Op.nilCheck (Operand.tmp 8), type := 0, pos := "pool.go:135", after := #[{ on := 5, ground := Ground.data }], guard := none }) (v := ?vta27) rfl (by kernel_rfl) (by kernel_rfl) (by kernel_rfl) (fun _ _ _ h => h) (Or.inl ⟨by rfl, ?yta27⟩) hS ?_
  case yta27 =>
    intro w hSw
    go_simp; all_goals (with_reducible rfl)
  simp only [Act.put, List.setIfInBounds_toArray, List.set_cons_zero, List.set_cons_succ]
  refine wpAnyH_take (i := 7) (oi := { dst := some 10, op := Op.fieldAddr 43 (Operand.tmp 9) 3, type := 0, pos := "pool.go:135", after := #[{ on := 6, ground := Ground.data }], guard := none }) (v := ?vta28) rfl (by kernel_rfl) (by kernel_rfl) (by kernel_rfl) (fun _ _ _ h => h) (Or.inl ⟨by rfl, ?yta28⟩) hS ?_
  case yta28 =>
    intro w hSw
    go_simp; all_goals (with_reducible rfl)
  simp only [Act.put, List.setIfInBounds_toArray, List.set_cons_zero, List.set_cons_succ]
  refine wpAnyH_take (i := 8) (oi := { dst := some 11, op := Op.load 3 (Operand.tmp 10), type := 3, pos := "pool.go:135", after := #[{ on := 7, ground := Ground.data }], guard := none }) (v := ?vta29) rfl (by kernel_rfl) (by kernel_rfl) (by kernel_rfl) (fun _ _ _ h => h) (Or.inl ⟨by rfl, ?yta29⟩) hS ?_
  case yta29 =>
    intro w hSw
    obtain ⟨_, _, _, i3, i4, i5, i6⟩ := HC.out w hSw.1
    have j1 := HX1.out w hSw.2.1
    have j2 := HX2.out w hSw.2.2
    have hk1 := HK.out.1
    have hk2 := HK.out.2
    go_simp; all_goals (with_reducible rfl)
  simp only [Act.put, List.setIfInBounds_toArray, List.set_cons_zero, List.set_cons_succ]
  refine wpAnyH_take (i := 9) (oi := { dst := some 12, op := Op.indexAddr 22 (Operand.tmp 6) (Operand.tmp 7), type := 0, pos := "pool.go:135", after := #[{ on := 3, ground := Ground.data }, { on := 4, ground := Ground.data }, { on := 0, ground := Ground.phase }, { on := 1, ground := Ground.phase }, { on := 2, ground := Ground.phase }, { on := 3, ground := Ground.phase }, { on := 4, ground := Ground.phase }, { on := 5, ground := Ground.phase }, { on := 6, ground := Ground.phase }, { on := 7, ground := Ground.phase }, { on := 8, ground := Ground.phase }], guard := none }) (v := ?vta30) rfl (by kernel_rfl) (by kernel_rfl) (by kernel_rfl) (fun _ _ _ h => h) (Or.inl ⟨by rfl, ?yta30⟩) hS ?_
  case yta30 =>
    intro w hSw
    obtain ⟨_, _, _, i3, i4, i5, i6⟩ := HC.out w hSw.1
    have j1 := HX1.out w hSw.2.1
    have j2 := HX2.out w hSw.2.2
    have hk1 := HK.out.1
    have hk2 := HK.out.2
    go_simp; all_goals (with_reducible rfl)
  simp only [Act.put, List.setIfInBounds_toArray, List.set_cons_zero, List.set_cons_succ]
  refine wpAnyH_ready (rs := [10]) (by kernel_rfl) (by simp) ?_
  refine (AllReadyH.cons (o := { dst := none, op := Op.store 3 (Operand.tmp 12) (Operand.tmp 11), type := 0, pos := "pool.go:135", after := #[{ on := 9, ground := Ground.data }, { on := 8, ground := Ground.data }, { on := 0, ground := Ground.phase }, { on := 1, ground := Ground.phase }, { on := 2, ground := Ground.phase }, { on := 3, ground := Ground.phase }, { on := 4, ground := Ground.phase }, { on := 5, ground := Ground.phase }, { on := 6, ground := Ground.phase }, { on := 7, ground := Ground.phase }, { on := 8, ground := Ground.phase }], guard := none }) rfl (fun K hK => ?_) AllReadyH.nil)
  go_simp
  refine hK.out _ _ g3 (fun _ => ?_)
  clear hK K
  refine wpAnyH_done (by kernel_rfl) ?_ _
  have hP1 : PoolAt (w.setCell ⟨hb, k, none⟩ (.int .i64 (P.t : Nat))).drew B hb mb { P with held := P.held.set k (P.t : Nat) } := (HPO.out.setH k (P.t : Nat)).keep rfl rfl rfl
  have hfr1 : PFr B hb mb w (w.setCell ⟨hb, k, none⟩ (.int .i64 (P.t : Nat))).drew := (PFr.setH w _).trans (PFr.of (below_drew _))
  have hx11 : BoxAt b1 (w.setCell ⟨hb, k, none⟩ (.int .i64 (P.t : Nat))).drew (PV B) := hx.keep g3.2.1
  have hx12 : BoxAt b2 (w.setCell ⟨hb, k, none⟩ (.int .i64 (P.t : Nat))).drew (.int .i64 (k : Nat)) := hx2.keep g3.2.2
  clear HC HX1 HX2 HK r1 r2 g3
  generalize (w.setCell ⟨hb, k, none⟩ (.int .i64 (P.t : Nat))).drew = w1 at *
  have hP2 : PoolAt (w1.setCell ⟨B, 3, none⟩ (.int .i64 ((P.t : Int) + 1))) B hb mb (P.take k) := hP1.setT (P.t + 1)
  have HP := Lib.hid hP2
  have HFR : Hid (PFr B hb mb w (w1.setCell ⟨B, 3, none⟩ (.int .i64 ((P.t : Int) + 1)))) := Lib.hid (hfr1.trans (PFr.set _ _))
  obtain ⟨_, _, _, c3, _, c5, _⟩ := hP1.cells
  simp only [List.length_set] at c3 c5
  have f3 := hP1.frozen 3
  have x1 := hx11.cell
  have y1 := (hx11.set (i := 3) (u := .int .i64 ((P.t : Int) + 1)) hap.1).cell
  have y2 := (hx12.set (i := 3) (u := .int .i64 ((P.t : Int) + 1)) hap2.1).cell
  have hr := (hP1.rowAt k (by simp only [List.length_set]; exact hk)).1
  simp only [List.getElem_set_self] at hr
  have z1 : (w1.setCell ⟨B, 3, none⟩ (.int .i64 ((P.t : Int) + 1))).cell? ⟨hb, k, none⟩ = some (.int .i64 (P.t : Nat)) := (World.cell?_of_block (a := ⟨hb, k, none⟩) (heap_setCell_other _ _ _ _ (fun e => HPO.out.ne1 e.symm))).trans hr
  have z2 : (w1.setCell ⟨B, 3, none⟩ (.int .i64 ((P.t : Int) + 1))).cell? ⟨B, 5, none⟩ = some (.slice (some ⟨hb, 0, none⟩) P.held.length P.held.length) := by
    have h5 := HP.out.cells.2.2.2.2.2.1
    rw [show (P.take k).held.length = P.held.length from List.length_set ..] at h5
    exact h5
  clear hx11 hx12 hfr1 hP1 hP2 hr
  go_wp2_with fail
  go_quiet (fail)
  go_wp2_with fail
  go_ret
  exact ⟨rfl, HP.out.keep rfl rfl rfl, HFR.out.trans (PFr.of (below_drewN (Below.refl _ _) _))⟩
end Go.Proofs.Ytfjpggpgiojmhaa
