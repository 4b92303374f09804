/- What is kept of the coder (for a seat without the coder's own examples). -/
import Derived.Test.YtdkimllfpiphgaaRcPlain
namespace Go.Proofs.Ytdkimllfpiphgaa
open Go.RowKit

theorem own_keep {w w' : World} {e o n cap : Nat} {xs : List Value} (h : w.ownsRow 0 e 1 (.slice (some ⟨o, 0, none⟩) n cap) n xs) (ho : w'.heap[o]? = w.heap[o]?) : w'.ownsRow 0 e 1 (.slice (some ⟨o, 0, none⟩) n cap) n xs := by
  rcases h with ⟨h1, h2 | ⟨g, cap', cur, h2, h3, h4, h5⟩⟩
  · exact ⟨h1, .inl h2⟩
  · injection h2 with e1 e2 e3
    injection e1 with e1
    injection e1 with e1
    subst e1 e3
    exact ⟨h1, .inr ⟨o, cap, cur, rfl, h3, ho.trans h4, h5⟩⟩
theorem EncAt.keep {w w' : World} {g o cap : Nat} {s : Rc.St} (h : EncAt w g o cap s) (hg : w'.heap[g]? = w.heap[g]?) (ho : w'.heap[o]? = w.heap[o]?) : EncAt w' g o cap s :=
  ⟨hg.trans h.blk, own_keep h.own ho, h.ne⟩
theorem EncAt.lt {w : World} {g o cap : Nat} {s : Rc.St} (h : EncAt w g o cap s) : g < w.heap.size ∧ o < w.heap.size :=
  ⟨block_lt_of_cell (cell0_of h.blk), (h.own.lt o rfl).2⟩
theorem EncAt.below {w w' : World} {g o cap : Nat} {s : Rc.St} (h : EncAt w g o cap s) (hb : Below w.heap.size w w') : EncAt w' g o cap s :=
  h.keep (hb.block g h.lt.1) (hb.block o h.lt.2)
end Go.Proofs.Ytdkimllfpiphgaa
