/- The finder's beforeFour. -/
import Derived.Test.YtnglkipjiojipaaFdChain
namespace Go.Proofs.Ytnglkipjiojipaa
open Go.RowKit

/-- A block of one value. -/
def BoxAt (b : Nat) (w : World) (v : Value) : Prop := ∃ t, w.heap[b]? = some (.cells [v].toArray t (0, 0))
theorem BoxAt.cell {b : Nat} {w : World} {v : Value} (h : BoxAt b w v) : w.cell? ⟨b, 0, none⟩ = some v := by
  obtain ⟨t, h⟩ := h
  rw [cell_of_row w b _ _ _ _ h]; rfl
theorem BoxAt.keep {b : Nat} {w w' : World} {v : Value} (h : BoxAt b w v) (hb : w'.heap[b]? = w.heap[b]?) : BoxAt b w' v := by
  obtain ⟨t, h⟩ := h
  exact ⟨t, hb.trans h⟩
theorem BoxAt.made (w : World) (v : Value) (t : TypeId) : BoxAt w.heap.size (w.alloc (.cells #[v] t)) v := ⟨t, heap_alloc_last _ _⟩
def FourDone (F : Nat) (place : Int) (w : World) (e : Ending) (w' : World) : Prop := ∃ b1 b2, e = .returned (.func (.func 27) #[] #[PF b1, PF b2]) ∧ BoxAt b1 w' (PF F) ∧ BoxAt b2 w' (.int .i64 place) ∧ w.heap.size ≤ b1 ∧ w.heap.size ≤ b2 ∧ Below w.heap.size w w'
set_option maxRecDepth 100000 in
theorem beforeFour_any (F : Nat) (place : Int) (w : World) : Calls Try.prog 24 #[PF F, .int .i64 place] w (FourDone F place w) := by
  obtain ⟨W1, hW1⟩ : ∃ W1, w.alloc (.cells #[PF F] 24) = W1 := ⟨_, rfl⟩
  obtain ⟨W2, hW2⟩ : ∃ W2, W1.alloc (.cells #[.int .i64 place] 3) = W2 := ⟨_, rfl⟩
  have hb1 : Below w.heap.size w W1 := by rw [← hW1]; exact (Below.refl _ _).alloc (Nat.le_refl _) _
  have hb2 : Below W1.heap.size W1 W2 := by rw [← hW2]; exact (Below.refl _ _).alloc (Nat.le_refl _) _
  have hx1 : BoxAt w.heap.size W1 (PF F) := by rw [← hW1]; exact BoxAt.made _ _ _
  have hx2 : BoxAt W1.heap.size W2 (.int .i64 place) := by rw [← hW2]; exact BoxAt.made _ _ _
  have hlt : w.heap.size < W1.heap.size := by rw [← hW1]; simp
  have HH := Lib.hid (And.intro hb1 (And.intro hb2 (And.intro hx1 (And.intro hx2 hlt))))
  have HW1 := Lib.hid hW1
  have HW2 := Lib.hid hW2
  have hsz : Hid (W1.heap.size = w.heap.size + 1) := Lib.hid (by rw [← hW1]; simp)
  clear hW1 hW2 hb1 hb2 hx1 hx2 hlt
  go_enter Try.func24, Try.ntmps24
  go_wp2_with fail
  rw [HW1.out, HW2.out]
  go_ret
  refine ⟨w.heap.size, W1.heap.size, ?_, HH.out.2.2.1.keep (HH.out.2.1.block _ HH.out.2.2.2.2), HH.out.2.2.2.1, Nat.le_refl _, Nat.le_of_lt HH.out.2.2.2.2, HH.out.1.trans (HH.out.2.1.mono (Nat.le_of_lt HH.out.2.2.2.2))⟩
  first | rfl | (rw [hsz.out]; rfl)
end Go.Proofs.Ytnglkipjiojipaa
