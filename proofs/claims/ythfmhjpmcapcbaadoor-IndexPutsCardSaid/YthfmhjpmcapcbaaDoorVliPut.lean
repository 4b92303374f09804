/- The walk over vli's Put. -/
import Derived.Test.YthfmhjpmcapcbaaDoorVliSeq
import Derived.Maps.AppendAt
namespace Go.Proofs.YthfmhjpmcapcbaaDoor
open Go.RowKit Go.Shelf
attribute [local go_sem] Oper.semAt_some

/-- Between two rounds: the bytes so far lie in the box B; the iterator's variable lies in block bn. -/
def PutAt (w : World) (B bn : Nat) (pre : List UInt8) (W : World) : Prop :=
  ∃ v x, W.heap[B]? = some (.cells #[v] 23 (0, 0)) ∧ W.heap[bn]? = some (.cells #[x] 41 (0, 0)) ∧ Own w.heap.size W v pre ∧ Below w.heap.size w W

theorem Own.put {base : Nat} {W : World} {v : Value} {l : List UInt8} (h : Own base W v l) {j : Nat} {o : Obj} (o' : Obj) (hj : W.heap[j]? = some o) (ho : o.isCells = false) : Own base (W.putObj j o') v l := by
  rcases h with ⟨h1, h2 | ⟨g, cap, cur, h2, h3, h4, h5⟩⟩
  · exact ⟨h1, .inl h2⟩
  · refine ⟨h1, .inr ⟨g, cap, cur, h2, h3, (World.putObj_heap_other ?_).trans h4, h5⟩⟩
    intro e; subst e; rw [hj] at h4; injection h4 with h4; subst h4; cases ho
theorem Own.set {base : Nat} {W : World} {v : Value} {l : List UInt8} (h : Own base W v l) {p : Addr} (hp : v.ownBlock ≠ some p.block) (u : Value) : Own base (W.setCell p u) v l := by
  rcases h with ⟨h1, h2 | ⟨g, cap, cur, h2, h3, h4, h5⟩⟩
  · exact ⟨h1, .inl h2⟩
  · exact ⟨h1, .inr ⟨g, cap, cur, h2, h3, (heap_setCell_other _ _ _ _ (fun e => hp (by rw [h2, ← e]; rfl))).trans h4, h5⟩⟩
/-- Its block is none of another type. -/
theorem Own.apart {base : Nat} {W : World} {v : Value} {l : List UInt8} (h : Own base W v l) {k : Nat} {cs : Array Value} {t : TypeId} {fr : Nat × Nat} (hk : W.heap[k]? = some (.cells cs t fr)) (ht : t ≠ 5) : v.ownBlock ≠ some k := by
  intro he
  rcases h with ⟨_, ⟨rfl, _⟩ | ⟨g', cap', cur, rfl, _, h4, _⟩⟩
  · cases he
  · have e : g' = k := by simpa [Value.ownBlock] using he
    subst e
    rw [h4] at hk
    injection hk with hk; injection hk with _ hk2 _
    exact ht hk2.symm

theorem Own.cells {base : Nat} {W : World} {v : Value} {l : List UInt8} (h : Own base W v l) {j : Nat} {o : Obj} (hj : v.ownBlock = some j) (ho : W.heap[j]? = some o) : o.isCells = true := by
  rcases h with ⟨_, ⟨rfl, _⟩ | ⟨g', cap', cur, rfl, _, h4, _⟩⟩
  · cases hj
  · have e : g' = j := by simpa [Value.ownBlock] using hj
    subst e
    rw [ho] at h4; injection h4 with h4; subst h4; rfl
theorem kept_of_block {bn : Nat} {W W' : World} (h : W'.heap[bn]? = W.heap[bn]?) : KeptCell bn W W' :=
  ⟨World.cell?_of_block (a := ⟨bn, 0, none⟩) h, World.frozen?_of_block (a := ⟨bn, 0, none⟩) h⟩

theorem putAt_alloc {w : World} {B bn : Nat} (s : List UInt8) (W : World) (o : Obj) (h : PutAt w B bn s W) : PutAt w B bn s (W.alloc o) := by
  obtain ⟨v, x, h1, h2, h3, h4⟩ := h
  have l1 : B < W.heap.size := (Array.getElem?_eq_some_iff.1 h1).1
  have l2 : bn < W.heap.size := (Array.getElem?_eq_some_iff.1 h2).1
  exact ⟨v, x, (Below.heap_alloc _ _ _ l1).trans h1, (Below.heap_alloc _ _ _ l2).trans h2, h3.alloc _, h4.alloc h4.size _⟩
theorem putAt_put {w w0 : World} {B bn : Nat} (hw : w.heap.size ≤ w0.heap.size) (s : List UInt8) (W : World) (j : Nat) (o o' : Obj) (h : PutAt w B bn s W) (hl : w0.heap.size ≤ j) (hj : W.heap[j]? = some o) (ho : o.isCells = false) : PutAt w B bn s (W.putObj j o') := by
  obtain ⟨v, x, h1, h2, h3, h4⟩ := h
  have n1 : B ≠ j := by intro e; subst e; rw [hj] at h1; injection h1 with h1; subst h1; cases ho
  have n2 : bn ≠ j := by intro e; subst e; rw [hj] at h2; injection h2 with h2; subst h2; cases ho
  refine ⟨v, x, (World.putObj_heap_other n1).trans h1, (World.putObj_heap_other n2).trans h2, h3.put _ hj ho, ?_⟩
  exact h4.grown (grownBy_putObj' W j o') h4.size (fun k e => by cases e; omega)
theorem putAt_cell {w : World} {B bn : Nat} (hne : B ≠ bn) (hb : w.heap.size ≤ bn) : AbidesCell bn (PutAt w B bn) := by
  intro s W u h
  obtain ⟨v, x, h1, h2, h3, h4⟩ := h
  refine ⟨v, u, (heap_setCell_other _ _ _ _ hne).trans h1, ?_, h3.set (h3.apart h2 (by decide)) _, h4.setCell hb _⟩
  rw [heap_setCell_same W bn 0 _ _ u h2]; rfl

def EncDone (w : World) (nv : Nat) (e : Ending) (w' : World) : Prop := e = .returned (.func (.func 33) #[] #[.pointer (some ⟨w.heap.size, 0, none⟩)]) ∧ w.alloc (.cells #[.int .u64 (nv : Nat)] 41) = w'
set_option maxHeartbeats 400000 in
theorem enc_in (F : Fence) (n : Nat) (h10 : F.fn 25) (hro : F.round = none) (nv : Nat) (w : World) :
    CallsIn F n Tryd.prog 25 #[.int .u64 (nv : Nat)] w (EncDone w nv) := by
  refine callsIn_of_wp Tryd.func25 rfl h10 ?_ hro
  simp only [Tryd.ntmps25, List.size_toArray, List.length_cons, List.length_nil, Nat.reduceAdd, Nat.reduceSub, Array.replicate_succ, Array.replicate_zero, List.push_toArray, List.append_toArray, List.nil_append, List.cons_append]
  gi_wp2
  go_ret
  exact ⟨rfl, rfl⟩

def PutDone (w : World) (l : List UInt8) (e : Ending) (w' : World) : Prop := ∃ v, e = .returned (.tuple #[v, .int .i64 0]) ∧ Own w.heap.size w' v l ∧ Below w.heap.size w w'

set_option maxRecDepth 100000 in
set_option maxHeartbeats 1000000 in
theorem put_in (F : Fence) (n : Nat) (h6 : F.fn 14) (h10 : F.fn 25) (h11 : F.fn 33) (hro : F.round = none) (hn : 3 ≤ n) (nv : Nat) (w : World) (hv : nv ≤ 9223372036854775807) :
    CallsIn F n Tryd.prog 14 #[.int .u64 (nv : Nat)] w (PutDone w (Vl.put 9 nv)) := by
  have h1 : 1 ≤ n := by omega
  have hv' : ¬ (9223372036854775807 : Int) < (nv : Int) := by omega
  have hv64 : nv < 18446744073709551616 := by omega
  refine callsIn_of_wp_marks Tryd.func14 rfl h6 ?_ hro
  simp only [Tryd.ntmps14, List.size_toArray, List.length_cons, List.length_nil, Nat.reduceAdd, Nat.reduceSub, Array.replicate_succ, Array.replicate_zero, List.push_toArray, List.append_toArray, List.nil_append, List.cons_append]
  gi_wp2_with (gi_at_call 25; refine (enc_in F (n - 1) h10 hro nv _).mono ?_; rintro e w' ⟨rfl, rfl⟩)
  have hblkN : ((w.alloc (.cells #[.slice none 0 0] 23)).alloc (.cells #[.int .u64 (nv : Nat)] 41)).heap[w.heap.size + 1]? = some (.cells #[.int .u64 (nv : Nat)] 41 (0, 0)) := by
    have := heap_alloc_new (w.alloc (.cells #[.slice none 0 0] 23)) (.cells #[.int .u64 (nv : Nat)] 41)
    rwa [World.size_alloc] at this
  have hblkB : ((w.alloc (.cells #[.slice none 0 0] 23)).alloc (.cells #[.int .u64 (nv : Nat)] 41)).heap[w.heap.size]? = some (.cells #[.slice none 0 0] 23 (0, 0)) :=
    (Below.heap_alloc _ _ _ (by simp)).trans (heap_alloc_new w _)
  have hbel : Below w.heap.size w ((w.alloc (.cells #[.slice none 0 0] 23)).alloc (.cells #[.int .u64 (nv : Nat)] 41)) := ((Below.refl _ _).alloc (Nat.le_refl _) _).alloc (by simp) _
  have hsz : ((w.alloc (.cells #[.slice none 0 0] 23)).alloc (.cells #[.int .u64 (nv : Nat)] 41)).heap.size = w.heap.size + 2 := by simp
  generalize (w.alloc (.cells #[.slice none 0 0] 23)).alloc (.cells #[.int .u64 (nv : Nat)] 41) = W0 at *
  have hcn : W0.cell? ⟨w.heap.size + 1, 0, none⟩ = some (.int .u64 (nv : Nat)) := by rw [cell_of_row _ _ _ _ _ _ hblkN]; rfl
  have hfn := frozen_of_row W0 (w.heap.size + 1) 0 _ _ hblkN
  have hv10 : nv < 128 ^ 10 := by
    have : (128 : Nat) ^ 10 = 1180591620717411303424 := by decide
    omega
  obtain ⟨i0, hi, hz0, hz1, hz2⟩ := info_parts info8
  refine wpIn_range_own hro h1 (gf := 33) (lb := #[.pointer (some ⟨w.heap.size + 1, 0, none⟩)]) rfl h11 (enters_of Tryd.func33 (by kernel_rfl) rfl)
    (enc_seq F (n - 1) h11 hro (by omega) (w.heap.size + 1) nv W0 (by omega) hcn hfn hv10 hv64) (by omega) (fun _ => rfl)
    (PutAt w w.heap.size (w.heap.size + 1)) putAt_alloc (putAt_put (w0 := W0) (by omega)) (putAt_cell (by omega) (by omega)) ⟨_, _, hblkB, hblkN, Own.nil _ _, hbel⟩
    (fun x => { tmps := #[.int .u64 (nv : Nat), undef, .slice none 0 0, .int .i64 0, .pointer (some ⟨w.heap.size, 0, none⟩), B8 x, .int .u64 (nv : Nat), .bool false, .int .u64 (nv : Nat), .func (.func 33) #[] #[.pointer (some ⟨w.heap.size + 1, 0, none⟩)], B8 x, undef, undef, undef, undef, undef], defers := [] }) ?assign ?body ?done
  case assign =>
    intro l x W K hK
    gi_wp2
    exact hK
  case body =>
    rintro l pre x W ⟨v, y, hB, hN, hO, hb⟩ hlen
    have cB : W.cell? ⟨w.heap.size, 0, none⟩ = some v := by rw [cell_of_row _ _ _ _ _ _ hB]; rfl
    have hbs := hb.size
    have hlB : w.heap.size < W.heap.size := (Array.getElem?_eq_some_iff.1 hB).1
    have hlN : w.heap.size + 1 < W.heap.size := (Array.getElem?_eq_some_iff.1 hN).1
    have aB := hO.apart hB (by decide)
    have aN := hO.apart hN (by decide)
    have hOa := hO.alloc (.cells #[B8 x] 5)
    clear hcn hfn hblkB hblkN hbel
    gi_wp2_with (gi_at_builtin; refine wpListIn_append_own _ rfl _ _ 23 rfl w.heap.size 5 i0 (.int .u8 0) 1 1 Tryd.underlying23 hi hz0 hz1 hz2 rfl (by decide) _ _ _ rfl hOa ⟨W.heap.size, 0, none⟩ 1 1 [B8 x] rfl rfl (cell_one_new _ _ _) (by intro u hu; simp at hu; subst hu; rfl) (by unfold maxLen; omega) (by omega) (by simp; omega) ?_; intro v' w1 hown' hgrow _; obtain ⟨g', cap', rfl, hg1, hg2⟩ := World.ownsRow.form hown' (by omega); have hB1 : w1.heap[w.heap.size]? = some (.cells #[v] 23 (0, 0)) := (hgrow.block _ (by simp; omega) (fun e => aB e.symm)).trans ((Below.heap_alloc _ _ _ hlB).trans hB); have hN1 : w1.heap[w.heap.size + 1]? = W.heap[w.heap.size + 1]? := (hgrow.block _ (by simp; omega) (fun e => aN e.symm)).trans (Below.heap_alloc _ _ _ hlN); have cB1 : w1.cell? ⟨w.heap.size, 0, none⟩ = some v := (by rw [cell_of_row _ _ _ _ _ _ hB1]; rfl); have fB1 := frozen_of_row w1 w.heap.size 0 _ _ hB1)
    have hgr : (W.alloc (.cells #[B8 x] 5)).grownBy w1 v.ownBlock := hgrow
    have hown2 : Own w.heap.size w1 (.slice (some ⟨g', 0, none⟩) (pre.length + 1) cap') (pre ++ [x]) := by
      unfold Own; simpa using hown'
    have aB1 := hown2.apart hB1 (by decide)
    refine ⟨((KeepsOthers.alloc W _).trans (KeepsOthers.of_grownBy hgr (fun j o hj ho => hOa.cells hj ho))).trans (KeepsOthers.setCell _ _ _), kept_of_block ((heap_setCell_other _ _ _ _ (by show w.heap.size + 1 ≠ w.heap.size; omega)).trans hN1), _, y, ?_, ?_, hown2.set aB1 _, ?_⟩
    · rw [heap_setCell_same w1 w.heap.size 0 _ _ _ hB1]; rfl
    · exact (heap_setCell_other _ _ _ _ (by show w.heap.size + 1 ≠ w.heap.size; omega)).trans (hN1.trans hN)
    · exact (below_grown (hb.alloc hb.size _) hgr (by simp; omega) (fun k hk => (hO.from_base k hk).1)).setCell (Nat.le_refl _) _
  case done =>
    rintro D xs W hD rfl ⟨v, y, hB, hN, hO, hb⟩ hK
    have cB : W.cell? ⟨w.heap.size, 0, none⟩ = some v := by rw [cell_of_row _ _ _ _ _ _ hB]; rfl
    gi_wp2
    refine ⟨by simp, .inl ⟨_, _, rfl, run_takeDeferred hK, ?_⟩⟩
    exact ⟨_, results_tmp2 rfl _ _ _, v, rfl, hO.put _ hK rfl, hb.grown (grownBy_putObj' W D (.deferred none)) hb.size (fun k e => by cases e; omega)⟩

theorem put_any (nv : Nat) (w : World) (hv : nv ≤ 9223372036854775807) : Calls Tryd.prog 14 #[.int .u64 (nv : Nat)] w (PutDone w (Vl.put 9 nv)) :=
  callsIn_wide.1 (put_in Fence.wide 3 trivial trivial trivial rfl (by omega) nv w hv)

set_option maxHeartbeats 400000 in
theorem put_over (nv : Nat) (w : World) (hv : 9223372036854775807 < nv) : Calls Tryd.prog 14 #[.int .u64 (nv : Nat)] w fun e w' => e = .returned (.tuple #[.slice none 0 0, .int .i64 1]) ∧ w = w' := by
  have hv' : (9223372036854775807 : Int) < (nv : Int) := by omega
  go_enter Tryd.func14, Tryd.ntmps14
  go_wp2_with fail
  go_ret2
  exact ⟨rfl, rfl⟩
end Go.Proofs.YthfmhjpmcapcbaaDoor
