/- A pool in memory: its struct, the row of held jobs, the set of those that wait. -/
import Derived.Test.YtfjpggpgiojmhaaVals
import Derived.Maps.OwnSet
namespace Go.Proofs.Ytfjpggpgiojmhaa
open Go.RowKit Go.Maps

theorem heap_set {w : World} {g : Nat} {L : List Value} {t : TypeId} (h : w.heap[g]? = some (.cells L.toArray t (0, 0))) (i : Nat) (v : Value) : (w.setCell ⟨g, i, none⟩ v).heap[g]? = some (.cells (L.set i v).toArray t (0, 0)) := by
  unfold World.setCell
  simp [Array.getElem?_modify, h]
theorem heap_setCell_other (w : World) (a : Addr) (v : Value) (i : Nat) (h : i ≠ a.block) : (w.setCell a v).heap[i]? = w.heap[i]? := RowKit.Below.heap_setCell _ _ _ _ h
theorem keyedInt : Keyed Try.prog 3 := int_keyed Try.underlying3
theorem keyInt (i : Nat) (h : i ≤ 1000000) : keyOf Try.prog 3 (.int .i64 (i : Nat)) = some (.int .i64 (i : Nat)) := keyOf_int_mk Try.underlying3 (by
  have h1 : IntKind.i64.min = -9223372036854775808 := rfl
  have h2 : IntKind.i64.max = 9223372036854775807 := rfl
  simp [Lit.wf, h1, h2]
  omega)
theorem zeroUnit (w : World) : (zeroValue 48).run Try.prog w = .ok (.agg #[]) w := by
  first | rfl | simp [zeroValue]
/-- A set of numbers in block b, m of them. -/
def SetAt (w : World) (b : Nat) (W : Nat → Bool) (m : Nat) : Prop := ∃ D : DataW Unit, w.ownsMap Try.prog 3 unitElem b m D ∧ Maps.size D = m ∧ ∀ i : Nat, Maps.has D (.int .i64 (i : Nat)) = W i
theorem ownsMap_tight {w : World} {k : TypeId} {R : Value → Option (DataW Unit × List MemPlace)} {b n : Nat} {D : DataW Unit} (h : w.ownsMap Try.prog k R b n D) : w.ownsMap Try.prog k R b (Maps.size D) D := by
  obtain ⟨es, clock, h1, F, h2, rfl⟩ := h
  exact ⟨es, clock, h1, F, by simp [Maps.size, length_sorted], rfl⟩
theorem SetAt.keep {w w' : World} {b m : Nat} {W : Nat → Bool} (h : SetAt w b W m) (hb : w'.heap[b]? = w.heap[b]?) : SetAt w' b W m := by
  obtain ⟨D, ⟨es, clock, h1, r⟩, h2⟩ := h
  exact ⟨D, ⟨es, clock, hb.trans h1, r⟩, h2⟩
theorem SetAt.lt {w : World} {b m : Nat} {W : Nat → Bool} (h : SetAt w b W m) : b < w.heap.size := by
  obtain ⟨D, ⟨es, clock, h1, _⟩, _⟩ := h
  exact (Array.getElem?_eq_some_iff.1 h1).1
theorem SetAt.made (w : World) : SetAt (w.alloc (.map #[] 0)) w.heap.size (fun _ => false) 0 := ⟨_, World.ownsMap_made w Try.prog _ _, rfl, fun _ => rfl⟩
/-- One block is another. -/
def Turned (w w' : World) (b : Nat) : Prop := w'.os = w.os ∧ w'.tape = w.tape ∧ w'.output = w.output ∧ w'.heap.size = w.heap.size ∧ ∀ g, g ≠ b → w'.heap[g]? = w.heap[g]?
theorem turned_of {w w' : World} {b : Nat} (h : w.mapTurned w' b) : Turned w w' b := by
  obtain ⟨es, clock, es', clock', hb, rfl⟩ := h
  exact ⟨rfl, rfl, rfl, by simp [ChangeMaps.setBlock], fun g hg => by simp [ChangeMaps.setBlock, Ne.symm hg]⟩
theorem litNe {i j : Nat} (h : i ≠ j) : (Lit.int .i64 (i : Nat)) ≠ Lit.int .i64 (j : Nat) := by
  intro e; injection e with _ e; omega
theorem keyLit (i : Nat) : WideAt.IsKeyLit (.int .i64 (i : Nat)) := by
  first | trivial | (unfold WideAt.IsKeyLit; simp)
theorem SetAt.look {w : World} {b m : Nat} {W : Nat → Bool} (h : SetAt w b W m) (i : Nat) (hi : i ≤ 1000000) : (Instr.lookup 41 (.map (some b)) (.int .i64 (i : Nat)) true).run Try.prog w = .ok (.tuple #[.agg #[], .bool (W i)]) w := by
  obtain ⟨D, h1, h2, h3⟩ := h
  obtain ⟨v, ps, hr, hv⟩ := h1.look_ok keyedInt Try.underlying41 (zeroUnit w) unitElem_mk (keyInt i hi)
  obtain ⟨rfl, _⟩ := unitElem_inv hv
  rw [hr, h3]
theorem SetAt.len {w : World} {b m : Nat} {W : Nat → Bool} (h : SetAt w b W m) (ty : TypeId) : (Builtin.len_ #[41] ty #[.map (some b)]).run Try.prog w = .ok (.int .i64 (m : Nat)) w := by
  obtain ⟨D, h1, h2, h3⟩ := h
  rw [h1.len Try.underlying41 ty, h2]
theorem SetAt.put {w : World} {b m : Nat} {W : Nat → Bool} (h : SetAt w b W m) (i : Nat) (hi : i ≤ 1000000) (hn : W i = false) (hm : m ≤ 1000000) : ∃ w', (Instr.mapUpdate 41 (.map (some b)) (.int .i64 (i : Nat)) (.agg #[])).run Try.prog w = .ok () w' ∧ SetAt w' b (fun j => if j = i then true else W j) (m + 1) ∧ Turned w w' b := by
  obtain ⟨D, h1, h2, h3⟩ := h
  obtain ⟨w', hr, ho, ht⟩ := h1.store keyedInt Try.underlying41 (by unfold maxLen; omega) (keyInt i hi) unitElem_mk
  have hsz : Maps.size (D.put (.int .i64 (i : Nat)) (.agg [])) = m + 1 := by rw [size_put (h1.tidy keyedInt), h3, hn, h2]; rfl
  refine ⟨w', hr, ⟨_, ?_, hsz, fun j => ?_⟩, turned_of ht⟩
  · have := ownsMap_tight ho
    rwa [hsz] at this
  · by_cases hj : j = i
    · subst hj; simp only [if_true]; rw [has_put_same h1.isMap (keyLit j)]
    · simp only [hj, if_false]; rw [has_put_other (litNe hj), h3]
theorem SetAt.del {w : World} {b m : Nat} {W : Nat → Bool} (h : SetAt w b W m) (i : Nat) (hi : i ≤ 1000000) (hn : W i = true) (ty : TypeId) : ∃ w', (Builtin.delete_ #[41, 3] ty #[.map (some b), .int .i64 (i : Nat)]).run Try.prog w = .ok (.tuple #[]) w' ∧ SetAt w' b (fun j => if j = i then false else W j) (m - 1) ∧ Turned w w' b := by
  obtain ⟨D, h1, h2, h3⟩ := h
  obtain ⟨w', hr, ho, ht⟩ := h1.drop keyedInt Try.underlying41 (keyInt i hi) ty
  have hsz : Maps.size (D.del (.int .i64 (i : Nat))) = m - 1 := by
    have := size_del (k := .int .i64 (i : Nat)) (h1.tidy keyedInt)
    rw [h3, hn, h2] at this
    simp at this; omega
  refine ⟨w', hr, ⟨_, ?_, hsz, fun j => ?_⟩, turned_of ht⟩
  · have := ownsMap_tight ho
    rwa [hsz] at this
  · by_cases hj : j = i
    · subst hj; simp only [if_true]; rw [has_del_same]
    · simp only [hj, if_false]; rw [has_del_other (litNe hj), h3]

structure PoolM where
  J : Nat
  R : Nat
  s : Nat
  t : Nat
  c : Nat
  held : List Int
  W : Nat → Bool
  m : Nat
structure PoolAt (w : World) (B hb mb : Nat) (P : PoolM) : Prop where
  box : w.heap[B]? = some (.cells [.int .i64 (P.J : Nat), .int .i64 (P.R : Nat), .int .i64 (P.s : Nat), .int .i64 (P.t : Nat), .int .i64 (P.c : Nat), .slice (some ⟨hb, 0, none⟩) P.held.length P.held.length, .map (some mb)].toArray 43 (0, 0))
  row : w.heap[hb]? = some (.cells (P.held.map (Value.int .i64)).toArray 3 (0, 0))
  set : SetAt w mb P.W P.m
  ne1 : B ≠ hb
  ne2 : B ≠ mb
  ne3 : hb ≠ mb
theorem PoolAt.keep {w w' : World} {B hb mb : Nat} {P : PoolM} (h : PoolAt w B hb mb P) (h1 : w'.heap[B]? = w.heap[B]?) (h2 : w'.heap[hb]? = w.heap[hb]?) (h3 : w'.heap[mb]? = w.heap[mb]?) : PoolAt w' B hb mb P :=
  ⟨h1.trans h.box, h2.trans h.row, h.set.keep h3, h.ne1, h.ne2, h.ne3⟩
theorem PoolAt.lt {w : World} {B hb mb : Nat} {P : PoolM} (h : PoolAt w B hb mb P) : B < w.heap.size ∧ hb < w.heap.size ∧ mb < w.heap.size := ⟨(Array.getElem?_eq_some_iff.1 h.box).1, (Array.getElem?_eq_some_iff.1 h.row).1, h.set.lt⟩
theorem PoolAt.below {w w' : World} {B hb mb : Nat} {P : PoolM} (h : PoolAt w B hb mb P) (hb' : Below w.heap.size w w') : PoolAt w' B hb mb P := h.keep (hb'.block _ h.lt.1) (hb'.block _ h.lt.2.1) (hb'.block _ h.lt.2.2)
/-- What can be read of the struct. -/
theorem PoolAt.cells {w : World} {B hb mb : Nat} {P : PoolM} (h : PoolAt w B hb mb P) : w.cell? ⟨B, 0, none⟩ = some (.int .i64 (P.J : Nat)) ∧ w.cell? ⟨B, 1, none⟩ = some (.int .i64 (P.R : Nat)) ∧ w.cell? ⟨B, 2, none⟩ = some (.int .i64 (P.s : Nat)) ∧ w.cell? ⟨B, 3, none⟩ = some (.int .i64 (P.t : Nat)) ∧
    w.cell? ⟨B, 4, none⟩ = some (.int .i64 (P.c : Nat)) ∧ w.cell? ⟨B, 5, none⟩ = some (.slice (some ⟨hb, 0, none⟩) P.held.length P.held.length) ∧ w.cell? ⟨B, 6, none⟩ = some (.map (some mb)) := by
  refine ⟨?_, ?_, ?_, ?_, ?_, ?_, ?_⟩ <;> (rw [cell_of_row w B _ _ _ _ h.box]; rfl)
theorem PoolAt.frozen {w : World} {B hb mb : Nat} {P : PoolM} (h : PoolAt w B hb mb P) (i : Nat) : w.frozen? ⟨B, i, none⟩ = false := by simp [World.frozen?, h.box]
theorem PoolAt.rowAt {w : World} {B hb mb : Nat} {P : PoolM} (h : PoolAt w B hb mb P) (k : Nat) (hk : k < P.held.length) : w.cell? ⟨hb, k, none⟩ = some (.int .i64 P.held[k]) ∧ w.frozen? ⟨hb, k, none⟩ = false := by
  constructor
  · rw [cell_of_row w hb _ _ _ _ h.row]; simp [hk]
  · simp [World.frozen?, h.row]
/-- All blocks but three stay. -/
structure PFr (B hb mb : Nat) (w w' : World) : Prop where
  os : w'.os = w.os
  tape : w'.tape = w.tape
  output : w'.output = w.output
  size : w.heap.size ≤ w'.heap.size
  block : ∀ g, g < w.heap.size → g ≠ B → g ≠ hb → g ≠ mb → w'.heap[g]? = w.heap[g]?
theorem PFr.refl (B hb mb : Nat) (w : World) : PFr B hb mb w w := ⟨rfl, rfl, rfl, Nat.le_refl _, fun _ _ _ _ _ => rfl⟩
theorem PFr.trans {B hb mb : Nat} {a b c : World} (h : PFr B hb mb a b) (k : PFr B hb mb b c) : PFr B hb mb a c := ⟨k.os.trans h.os, k.tape.trans h.tape, k.output.trans h.output, Nat.le_trans h.size k.size, fun g h1 h2 h3 h4 => (k.block g (Nat.lt_of_lt_of_le h1 h.size) h2 h3 h4).trans (h.block g h1 h2 h3 h4)⟩
theorem PFr.of {B hb mb : Nat} {w w' : World} (h : Below w.heap.size w w') : PFr B hb mb w w' := ⟨h.os, h.tape, h.output, h.size, fun g h1 _ _ _ => h.block g h1⟩
theorem PFr.below {B hb mb lo : Nat} {w0 w w' : World} (h : PFr B hb mb w w') (h0 : Below lo w0 w) (hl : lo ≤ w.heap.size) (h1 : lo ≤ B) (h2 : lo ≤ hb) (h3 : lo ≤ mb) : Below lo w0 w' :=
  ⟨h.os.trans h0.os, h.tape.trans h0.tape, h.output.trans h0.output, Nat.le_trans h0.size h.size, fun g hg => (h.block g (by omega) (by omega) (by omega) (by omega)).trans (h0.block g hg)⟩
theorem PFr.set {B hb mb i : Nat} (w : World) (v : Value) : PFr B hb mb w (w.setCell ⟨B, i, none⟩ v) := ⟨rfl, rfl, rfl, by simp, fun g _ h1 _ _ => heap_setCell_other _ _ _ _ h1⟩
theorem PFr.setH {B hb mb i : Nat} (w : World) (v : Value) : PFr B hb mb w (w.setCell ⟨hb, i, none⟩ v) := ⟨rfl, rfl, rfl, by simp, fun g _ _ h1 _ => heap_setCell_other _ _ _ _ h1⟩
theorem PFr.turned {B hb mb : Nat} {w w' : World} (h : Turned w w' mb) : PFr B hb mb w w' := ⟨h.1, h.2.1, h.2.2.1, by rw [h.2.2.2.1]; exact Nat.le_refl _, fun g _ _ _ h1 => h.2.2.2.2 g h1⟩
/-- A cell of the struct is written. -/
theorem PoolAt.setS {w : World} {B hb mb : Nat} {P : PoolM} (h : PoolAt w B hb mb P) (x : Nat) : PoolAt (w.setCell ⟨B, 2, none⟩ (.int .i64 (x : Nat))) B hb mb { P with s := x } :=
  ⟨heap_set h.box 2 _, (heap_setCell_other _ _ _ _ (fun e => h.ne1 e.symm)).trans h.row, h.set.keep (heap_setCell_other _ _ _ _ (fun e => h.ne2 e.symm)), h.ne1, h.ne2, h.ne3⟩
theorem PoolAt.setT {w : World} {B hb mb : Nat} {P : PoolM} (h : PoolAt w B hb mb P) (x : Nat) : PoolAt (w.setCell ⟨B, 3, none⟩ (.int .i64 (x : Nat))) B hb mb { P with t := x } :=
  ⟨heap_set h.box 3 _, (heap_setCell_other _ _ _ _ (fun e => h.ne1 e.symm)).trans h.row, h.set.keep (heap_setCell_other _ _ _ _ (fun e => h.ne2 e.symm)), h.ne1, h.ne2, h.ne3⟩
theorem PoolAt.setC {w : World} {B hb mb : Nat} {P : PoolM} (h : PoolAt w B hb mb P) (x : Nat) : PoolAt (w.setCell ⟨B, 4, none⟩ (.int .i64 (x : Nat))) B hb mb { P with c := x } :=
  ⟨heap_set h.box 4 _, (heap_setCell_other _ _ _ _ (fun e => h.ne1 e.symm)).trans h.row, h.set.keep (heap_setCell_other _ _ _ _ (fun e => h.ne2 e.symm)), h.ne1, h.ne2, h.ne3⟩
theorem PoolAt.setH {w : World} {B hb mb : Nat} {P : PoolM} (h : PoolAt w B hb mb P) (k : Nat) (x : Int) : PoolAt (w.setCell ⟨hb, k, none⟩ (.int .i64 x)) B hb mb { P with held := P.held.set k x } := by
  refine ⟨?_, ?_, h.set.keep (heap_setCell_other _ _ _ _ (fun e => h.ne3 e.symm)), h.ne1, h.ne2, h.ne3⟩
  · simp only [List.length_set]
    exact (heap_setCell_other _ _ _ _ h.ne1).trans h.box
  · rw [List.map_set]; exact heap_set h.row k _
theorem PoolAt.turned {w w' : World} {B hb mb m' : Nat} {P : PoolM} {W' : Nat → Bool} (h : PoolAt w B hb mb P) (ht : Turned w w' mb) (hs : SetAt w' mb W' m') : PoolAt w' B hb mb { P with W := W', m := m' } :=
  ⟨(ht.2.2.2.2 _ h.ne2).trans h.box, (ht.2.2.2.2 _ h.ne3).trans h.row, hs, h.ne1, h.ne2, h.ne3⟩
end Go.Proofs.Ytfjpggpgiojmhaa
