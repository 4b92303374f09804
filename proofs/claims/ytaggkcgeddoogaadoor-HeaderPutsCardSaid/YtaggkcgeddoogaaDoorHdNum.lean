/- header.Put's closure: it appends a number's bytes to what its box holds. -/
import Derived.Test.YtaggkcgeddoogaaDoorSmSum
import Derived.Test.YtaggkcgeddoogaaDoorVliAll
import Derived.Test.YtaggkcgeddoogaaDoorVals
namespace Go.Proofs.YtaggkcgeddoogaaDoor
open Go.RowKit

/-- A box that holds a byte slice. -/
def Box (bo : Nat) (w : World) (v : Value) : Prop := w.heap[bo]? = some (.cells #[v] 26 (0, 0))
theorem Box.cell {bo : Nat} {w : World} {v : Value} (h : Box bo w v) : w.cell? ⟨bo, 0, none⟩ = some v := by
  rw [cell_of_row w bo 0 _ _ _ h]; rfl
theorem Box.frozen {bo : Nat} {w : World} {v : Value} (h : Box bo w v) : w.frozen? ⟨bo, 0, none⟩ = false := by
  simp [World.frozen?, show w.heap[bo]? = _ from h]
theorem Box.lt {bo : Nat} {w : World} {v : Value} (h : Box bo w v) : bo < w.heap.size := (Array.getElem?_eq_some_iff.1 h).1
theorem Box.ne {bo base : Nat} {w : World} {v u : Value} {l : List UInt8} (h : Box bo w v) (ho : Own base w u l) : u.ownBlock ≠ some bo := by
  intro e
  rcases ho with ⟨_, ⟨rfl, _⟩ | ⟨g, cap, cur, rfl, _, hg, _⟩⟩
  · cases e
  · injection e with e
    subst e
    rw [show w.heap[g]? = _ from h] at hg
    injection hg with hg
    injection hg with _ ht
    exact absurd ht (by decide)
theorem Box.set {bo : Nat} {w : World} {v : Value} (h : Box bo w v) (u : Value) : Box bo (w.setCell ⟨bo, 0, none⟩ u) u := heap_set (L := [v]) h 0 u
theorem Own.setBox {bo base : Nat} {w : World} {v u : Value} {l : List UInt8} (ho : Own base w u l) (h : Box bo w v) (x : Value) : Own base (w.setCell ⟨bo, 0, none⟩ x) u l := by
  have hn := h.ne ho
  rcases ho with ⟨h1, h2 | ⟨g, cap, cur, rfl, h3, hg, h4⟩⟩
  · exact ⟨h1, .inl h2⟩
  · exact ⟨h1, .inr ⟨g, cap, cur, rfl, h3, (heap_setCell_other _ _ _ _ (fun e => hn (by simp [Value.ownBlock]; exact e))).trans hg, h4⟩⟩
theorem Box.below {bo : Nat} {w w' : World} {v : Value} (h : Box bo w v) (hb : Below w.heap.size w w') : Box bo w' v := (hb.block bo h.lt).trans h
theorem Box.grown {bo : Nat} {w w' : World} {v : Value} {row : Option Nat} (h : Box bo w v) (hg : w.grownBy w' row) (hn : row ≠ some bo) : Box bo w' v := (hg.block bo h.lt (fun e => hn e.symm)).trans h

theorem Own.opened {base : Nat} {w : World} {v : Value} {l : List UInt8} (h : Own base w v l) (h0 : 0 < l.length) : ∃ g c, v = .slice (some ⟨g, 0, none⟩) l.length c ∧ base ≤ g ∧ g < w.heap.size ∧ l.length ≤ c ∧ c ≤ 9223372036854775807 ∧ (∀ i (h : i < (l.map B8).length), w.cell? ⟨g, i, none⟩ = some (l.map B8)[i]) ∧ ∀ i, w.frozen? ⟨g, i, none⟩ = false := by
  rcases h with ⟨h1, ⟨_, hn⟩ | ⟨g, cap, cur, rfl, hb, hg, hnc, hcm, hsz, htake⟩⟩
  · omega
  · refine ⟨g, cap, rfl, hb, ?_, hnc, by unfold maxLen at hcm; exact hcm, fun i hi => ?_, fun i => ?_⟩
    · rcases Nat.lt_or_ge g w.heap.size with h | h
      · exact h
      · rw [Array.getElem?_eq_none h] at hg; cases hg
    · rw [cell_of_row w g _ cur _ _ hg]
      have h2 := congrArg (fun x : List Value => x[i]?) htake
      rw [List.length_map] at hi
      simp only [List.getElem?_take, Nat.mul_one, hi, if_true] at h2
      rw [List.getElem?_eq_getElem (show i < (l.map B8).length by simpa using hi)] at h2
      simpa using h2
    · simp [World.frozen?, hg]
theorem Own.keep {base : Nat} {w w' : World} {v : Value} {l : List UInt8} (h : Own base w v l) (hb : ∀ g, v.ownBlock = some g → w'.heap[g]? = w.heap[g]?) : Own base w' v l := by
  rcases h with ⟨h1, h2 | ⟨g, cap, cur, h2, h3, h4, h5⟩⟩
  · exact ⟨h1, .inl h2⟩
  · exact ⟨h1, .inr ⟨g, cap, cur, h2, h3, (hb g (by rw [h2]; rfl)).trans h4, h5⟩⟩
theorem elem8 : Elem 26 5 (.int .u8 0) 1 := ⟨Tryd.underlying26, by kernel_rfl, rfl⟩
theorem Own.vals {base : Nat} {w : World} {v : Value} {l : List UInt8} (h : Own base w v l) : OwnV 5 base w v (l.map B8) := by
  have h' : w.ownsRow base 5 1 v l.length (l.map B8) := h
  unfold OwnV; rw [List.length_map]; exact h'
theorem OwnV.bytes {base : Nat} {w : World} {v : Value} {l m : List UInt8} (h : OwnV 5 base w v (l.map B8 ++ m.map B8)) : Own base w v (l ++ m) := by
  have h' : w.ownsRow base 5 1 v (l.map B8 ++ m.map B8).length (l.map B8 ++ m.map B8) := h
  rw [← List.map_append, List.length_map] at h'
  exact h'

set_option maxRecDepth 100000 in
set_option maxHeartbeats 1000000 in
theorem num_any (bo base : Nat) (v : Value) (L : List UInt8) (n : Nat) (w : World) (hb : Box bo w v) (ho : Own base w v L) (hbb : base ≤ bo) (hn : n ≤ 9223372036854775807) (hL : L.length ≤ 100000000) :
    Calls Tryd.prog 15 #[.int .u64 (n : Nat), .pointer (some ⟨bo, 0, none⟩)] w fun e w' => ∃ v', e = .returned (.tuple #[]) ∧ Box bo w' v' ∧ Own base w' v' (L ++ Vl.put 9 n) ∧ Below base w w' ∧ (∀ g, g < w.heap.size → g ≠ bo → v.ownBlock ≠ some g → w'.heap[g]? = w.heap[g]?) ∧ ∀ g, v'.ownBlock = some g → v.ownBlock = some g ∨ w.heap.size ≤ g := by
  have HP := Lib.hid (put_any n w hn)
  have HL := Lib.hid (Vl.put_length 9 n)
  generalize Vl.put 9 n = P at *
  have hbw : base ≤ w.heap.size := Nat.le_trans hbb (Nat.le_of_lt hb.lt)
  go_enter Tryd.func15, Tryd.ntmps15
  go_wp2_with fail
  refine HP.out.mono ?_
  rintro e w1 ⟨v1, rfl, ho1, hb1⟩
  obtain ⟨gp, c, rfl, _, hgp, hc1, hc2, hP1, _⟩ := ho1.opened HL.out.1
  have HP1 := Lib.hid hP1
  have hx1 := hb.below hb1
  have hcl := hx1.cell
  have ho2 := ho.below hb1
  have hsz := hb1.size
  clear hP1
  go_wp2_with (refine wpList_append_vals elem8 rfl _ _ rfl base _ v (L.map B8) rfl ho2.vals gp P.length c (P.map B8) rfl (by simp) HP1.out (b8_one P) (by have := HL.out; simp; omega) (by have := HL.out; simp; omega) (by omega) ?_; intro v' w2 ho3' hg3 hloc; have ho3 := ho3'.bytes; have hx2 := hx1.grown hg3 (fun e => hx1.ne ho2 e); have hcl2 := hx2.cell; have hfz2 := hx2.frozen; obtain ⟨A3, c3, rfl, hc3⟩ := ho3.read; rw [List.length_append] at ho3 hloc)
  go_end0
  refine ⟨_, rfl, hx2.set _, ho3.setBox hx2 _, Below.setCell (below_grown (hb1.mono hbw) hg3 (by omega) (fun g e => (ho2.from_base g e).1)) hbb _, fun g h1 h2 h3 => (heap_setCell_other _ _ _ _ (fun e => h2 e)).trans ((hg3.block g (by omega) (fun e => h3 e.symm)).trans (hb1.block g h1)), fun g hg => ?_⟩
  rcases hloc with h | h
  · exact .inl (h ▸ hg)
  · refine .inr ?_
    rw [h] at hg
    injection hg with e
    omega
end Go.Proofs.YtaggkcgeddoogaaDoor
