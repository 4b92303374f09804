/- A pointer; an element of bytes. -/
import Derived.Test.YtkckjjchfccdjaaMg1
namespace Go.Proofs.Ytkckjjchfccdjaa
set_option maxRecDepth 100000
open Go.RowKit

abbrev PF (F : Nat) : Value := .pointer (some ⟨F, 0, none⟩)
theorem getD_of {d : List UInt8} {i : Nat} (h : i < d.length) : d.getD i 0 = d[i] := by simp [List.getD, h]
theorem heap_set {w : World} {g : Nat} {L : List Value} {t : TypeId} (h : w.heap[g]? = some (.cells L.toArray t (0, 0))) (i : Nat) (v : Value) : (w.setCell ⟨g, i, none⟩ v).heap[g]? = some (.cells (L.set i v).toArray t (0, 0)) := by
  unfold World.setCell
  simp [Array.getElem?_modify, h]
theorem heap_setCell_other (w : World) (a : Addr) (v : Value) (i : Nat) (h : i ≠ a.block) : (w.setCell a v).heap[i]? = w.heap[i]? := RowKit.Below.heap_setCell _ _ _ _ h
end Go.Proofs.Ytkckjjchfccdjaa
