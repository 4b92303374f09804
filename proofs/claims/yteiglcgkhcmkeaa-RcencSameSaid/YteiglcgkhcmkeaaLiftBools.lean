/- A []bool that came in. -/
import Derived.Test.YteiglcgkhcmkeaaLift
import Derived.Deep.Grids
namespace Go.Proofs.Yteiglcgkhcmkeaa
open Go.ChangeShapes Go.WideShapes Go.ChangeAt Go.RowKit
theorem open_boolRow {H : Type} {enc : TypeId × Value → H} {W : World} {b0 : Nat} {v : Value} {d : DataW H} {p : List MemPlace}
    (hval : Value.okWide Try.prog W .any b0 41 v) (h : DataW.Trod enc Try.prog W 0 (fun _ => true) true 41 v d p) :
    ∃ (A : Option Addr) (len c : Nat) (B : Nat → Bool), v = .slice A len c ∧ len ≤ c ∧ c ≤ 9223372036854775807 ∧ (len = 0 ∨ ∃ a : Addr, A = some a ∧ a.block < W.heap.size ∧ ∀ i, i < len → W.cell? (a.add i) = some (.bool (B i))) := by
  obtain ⟨fuel, hf⟩ := h
  obtain ⟨a0, len, cap, rfl⟩ := okWide_slice Try.underlying41 hval
  rcases Go.Deep.open_bools Try.underlying41 Try.underlying4 (by kernel_rfl) hf with ⟨hcs, _⟩ | ⟨a, len', cap', B, hcs, _, hl, hm, _, hcell⟩
  · simp [Value.cells] at hcs
    obtain ⟨rfl, rfl, rfl⟩ := hcs
    exact ⟨none, 0, 0, fun _ => false, rfl, by omega, by omega, .inl rfl⟩
  · simp [Value.cells] at hcs
    obtain ⟨rfl, rfl, rfl⟩ := hcs
    unfold maxLen at hm
    refine ⟨some a, len, cap, B, rfl, hl, hm, ?_⟩
    rcases Nat.eq_zero_or_pos len with h0 | hpos
    · exact .inl h0
    · refine .inr ⟨a, rfl, ?_, fun i hi => hcell i (by omega)⟩
      have := block_lt_of_cell (hcell 0 (by omega)); simpa [Addr.add] using this
end Go.Proofs.Yteiglcgkhcmkeaa
