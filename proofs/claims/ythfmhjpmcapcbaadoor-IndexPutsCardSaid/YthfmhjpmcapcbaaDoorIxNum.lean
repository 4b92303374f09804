/- index.Put's closure: it appends a number's bytes to what its box holds. -/
import Derived.Test.YthfmhjpmcapcbaaDoorSmSum
import Derived.Test.YthfmhjpmcapcbaaDoorVliPut
namespace Go.Proofs.YthfmhjpmcapcbaaDoor
open Go.RowKit

/-- A box that holds a byte slice. -/
def Box (bo : Nat) (w : World) (v : Value) : Prop := w.heap[bo]? = some (.cells #[v] 23 (0, 0))
theorem Box.cell {bo : Nat} {w : World} {v : Value} (h : Box bo w v) : w.cell? ⟨bo, 0, none⟩ = some v := by
  rw [cell_of_row w bo 0 _ _ _ h]; rfl
theorem Box.frozen {bo : Nat} {w : World} {v : Value} (h : Box bo w v) : w.frozen? ⟨bo, 0, none⟩ = false := by
  simp [World.frozen?, show w.heap[bo]? = _ from h]
theorem Box.lt {bo : Nat} {w : World} {v : Value} (h : Box bo w v) : bo < w.heap.size := (Array.getElem?_eq_some_iff.1 h).1
theorem Box.ne {bo base : Nat} {w : World} {v u : Value} {l : List UInt8} (h : Box bo w v) (ho : Own base w u l) : u.ownBlock ≠ some bo := by
  intro e
  rcases ho with ⟨_, ⟨rfl, _⟩ | ⟨g, cap, cur, rfl, _, hg, _⟩⟩
  · cases e
  · injection e with e
    subst e
    rw [show w.heap[g]? = _ from h] at hg
    injection hg with hg
    injection hg with _ ht
    exact absurd ht (by decide)
theorem Box.set {bo : Nat} {w : World} {v : Value} (h : Box bo w v) (u : Value) : Box bo (w.setCell ⟨bo, 0, none⟩ u) u := heap_set (L := [v]) h 0 u
theorem Own.setBox {bo base : Nat} {w : World} {v u : Value} {l : List UInt8} (ho : Own base w u l) (h : Box bo w v) (x : Value) : Own base (w.setCell ⟨bo, 0, none⟩ x) u l := by
  have hn := h.ne ho
  rcases ho with ⟨h1, h2 | ⟨g, cap, cur, rfl, h3, hg, h4⟩⟩
  · exact ⟨h1, .inl h2⟩
  · exact ⟨h1, .inr ⟨g, cap, cur, rfl, h3, (heap_setCell_other _ _ _ _ (fun e => hn (by simp [Value.ownBlock]; exact e))).trans hg, h4⟩⟩
theorem Box.below {bo : Nat} {w w' : World} {v : Value} (h : Box bo w v) (hb : Below w.heap.size w w') : Box bo w' v := (hb.block bo h.lt).trans h
theorem Box.grown {bo : Nat} {w w' : World} {v : Value} {row : Option Nat} (h : Box bo w v) (hg : w.grownBy w' row) (hn : row ≠ some bo) : Box bo w' v := (hg.block bo h.lt (fun e => hn e.symm)).trans h

set_option maxRecDepth 100000 in
set_option maxHeartbeats 1000000 in
theorem num_any (bo base : Nat) (v : Value) (L : List UInt8) (n : Nat) (w : World) (hb : Box bo w v) (ho : Own base w v L) (hbb : base ≤ bo) (hn : n ≤ 9223372036854775807) (hL : L.length ≤ 100000000) :
    Calls Tryd.prog 13 #[.int .u64 (n : Nat), .pointer (some ⟨bo, 0, none⟩)] w fun e w' => ∃ v', e = .returned (.tuple #[]) ∧ Box bo w' v' ∧ Own base w' v' (L ++ Vl.put 9 n) ∧ Below base w w' ∧ ∀ g, g < w.heap.size → g ≠ bo → v.ownBlock ≠ some g → w'.heap[g]? = w.heap[g]? := by
  have HP := Lib.hid (put_any n w hn)
  have HL := Lib.hid (Vl.put_length 9 n)
  generalize Vl.put 9 n = P at *
  have hbw : base ≤ w.heap.size := Nat.le_trans hbb (Nat.le_of_lt hb.lt)
  go_enter Tryd.func13, Tryd.ntmps13
  go_wp2_with fail
  refine HP.out.mono ?_
  rintro e w1 ⟨v1, rfl, ho1, hb1⟩
  obtain ⟨A, c, rfl, hc1, hc2, hB1⟩ := ho1.read
  have hx1 := hb.below hb1
  have hcl := hx1.cell
  have ho2 := ho.below hb1
  have hsz := hb1.size
  go_wp2_with (refine wpList_append_bytes rfl _ _ rfl base _ v L rfl ho2 A P c rfl hB1 (by have := HL.out; omega) (by omega) ?_; intro v' w2 ho3 hg3; have hx2 := hx1.grown hg3 (fun e => hx1.ne ho2 e); have hcl2 := hx2.cell; have hfz2 := hx2.frozen; obtain ⟨A3, c3, rfl, hc3⟩ := ho3.read; rw [List.length_append] at ho3)
  go_end0
  exact ⟨_, rfl, hx2.set _, ho3.setBox hx2 _, Below.setCell (below_grown (hb1.mono hbw) hg3 (by omega) (fun g e => (ho2.from_base g e).1)) hbb _, fun g h1 h2 h3 => (heap_setCell_other _ _ _ _ (fun e => h2 e)).trans ((hg3.block g (by omega) (fun e => h3 e.symm)).trans (hb1.block g h1))⟩
end Go.Proofs.YthfmhjpmcapcbaaDoor
