/- Chunks: the packer in memory, and the coder that it keeps. -/
import Derived.Test.YtklkboplkobhgaaGreatChkG
import Derived.Test.YtklkboplkobhgaaGreatChkFine
import Derived.Test.YtklkboplkobhgaaGreatChkStands
import Derived.Test.YtklkboplkobhgaaGreatPaSyms
namespace Go.Proofs.YtklkboplkobhgaaGreat
set_option maxRecDepth 100000
open Go.RowKit

/-- What a packer goes by, and never changes. -/
structure PkS where
  A : Option Addr
  D : List UInt8
  cD : Nat
  lc : Nat
  lp : Nat
  pb : Nat
  nice : Int
  chunk : Int
  block : Int
  check : Int
  chain : Value
  dict : Nat
  F : Nat
abbrev pkRow (k : PkS) (cv : Value) (had : Bool) : List Value :=
  [.slice k.A k.D.length k.cD, .int .i64 (k.lc : Nat), .int .i64 (k.lp : Nat), .int .i64 (k.pb : Nat), .int .i64 k.nice, .int .i64 k.chunk, .int .i64 k.block, .int .i64 k.check, k.chain, .int .u32 (k.dict : Nat), PF k.F, cv, .bool had]
def PkAt (w : World) (p : Nat) (k : PkS) (cv : Value) (had : Bool) : Prop := w.heap[p]? = some (.cells (pkRow k cv had).toArray 41 (0, 0))
section
variable {w w' : World} {p : Nat} {k : PkS} {cv : Value} {had : Bool}
theorem PkAt.lt (h : PkAt w p k cv had) : p < w.heap.size := (Array.getElem?_eq_some_iff.1 h).1
theorem PkAt.keep (h : PkAt w p k cv had) (hk : w'.heap[p]? = w.heap[p]?) : PkAt w' p k cv had := hk.trans h
theorem PkAt.below (h : PkAt w p k cv had) (hb : Below w.heap.size w w') : PkAt w' p k cv had := h.keep (hb.block _ h.lt)
theorem PkAt.frozen (h : PkAt w p k cv had) (i : Nat) : w.frozen? ⟨p, i, none⟩ = false := frozen_of_row _ _ _ _ _ h
theorem PkAt.data (h : PkAt w p k cv had) : w.cell? ⟨p, 0, none⟩ = some (.slice k.A k.D.length k.cD) := by rw [cell_of_row w _ _ _ _ _ h]; rfl
theorem PkAt.lc (h : PkAt w p k cv had) : w.cell? ⟨p, 1, none⟩ = some (.int .i64 (k.lc : Nat)) := by rw [cell_of_row w _ _ _ _ _ h]; rfl
theorem PkAt.lp (h : PkAt w p k cv had) : w.cell? ⟨p, 2, none⟩ = some (.int .i64 (k.lp : Nat)) := by rw [cell_of_row w _ _ _ _ _ h]; rfl
theorem PkAt.pb (h : PkAt w p k cv had) : w.cell? ⟨p, 3, none⟩ = some (.int .i64 (k.pb : Nat)) := by rw [cell_of_row w _ _ _ _ _ h]; rfl
theorem PkAt.find (h : PkAt w p k cv had) : w.cell? ⟨p, 10, none⟩ = some (PF k.F) := by rw [cell_of_row w _ _ _ _ _ h]; rfl
theorem PkAt.cod (h : PkAt w p k cv had) : w.cell? ⟨p, 11, none⟩ = some cv := by rw [cell_of_row w _ _ _ _ _ h]; rfl
theorem PkAt.had_ (h : PkAt w p k cv had) : w.cell? ⟨p, 12, none⟩ = some (.bool had) := by rw [cell_of_row w _ _ _ _ _ h]; rfl
theorem PkAt.opts (h : PkAt w p k cv had) : w.cell? ⟨p, 4, none⟩ = some (.int .i64 k.nice) ∧ w.cell? ⟨p, 5, none⟩ = some (.int .i64 k.chunk) ∧ w.cell? ⟨p, 6, none⟩ = some (.int .i64 k.block) ∧ w.cell? ⟨p, 7, none⟩ = some (.int .i64 k.check) ∧ w.cell? ⟨p, 8, none⟩ = some k.chain ∧ w.cell? ⟨p, 9, none⟩ = some (.int .u32 (k.dict : Nat)) := by
  refine ⟨?_, ?_, ?_, ?_, ?_, ?_⟩ <;> (rw [cell_of_row w _ _ _ _ _ h]; rfl)
theorem PkAt.setCod (h : PkAt w p k cv had) (cv' : Value) : PkAt (w.setCell ⟨p, 11, none⟩ cv') p k cv' had := heap_set h 11 cv'
theorem PkAt.setHad (h : PkAt w p k cv had) (b : Bool) : PkAt (w.setCell ⟨p, 12, none⟩ (.bool b)) p k cv b := heap_set h 12 (.bool b)
end
/-- The coder between two parts: none, or its state, the repeats and the chances. -/
abbrev CodS : Type := Option (Nat × R4 × (Nat → Nat))
def newCod : Nat × R4 × (Nat → Nat) := (0, (1, 1, 1, 1), fun _ => 1024)
structure Cod1 (w : World) (k : PkS) (C L : Nat) (s : Nat × R4 × (Nat → Nat)) : Prop where
  mod : ModAt w C L k.lc k.lp k.pb s.1 s.2.1 s.2.2
  st : s.1 < 12
  good : rGood s.2.1
def CodIs (w : World) (k : PkS) (cv : Value) (Y : List Nat) : CodS → Prop
  | none => cv = .pointer none ∧ Y = []
  | some s => ∃ C L, cv = PF C ∧ Y = [C, L] ∧ Cod1 w k C L s
theorem Cod1.keep {w w' : World} {k : PkS} {C L : Nat} {s : Nat × R4 × (Nat → Nat)} (h : Cod1 w k C L s) (hC : w'.heap[C]? = w.heap[C]?) (hL : w'.heap[L]? = w.heap[L]?) : Cod1 w' k C L s := ⟨h.mod.keep hC hL, h.st, h.good⟩
theorem CodIs.lt {w : World} {k : PkS} {cv : Value} {Y : List Nat} {s : CodS} (h : CodIs w k cv Y s) : ∀ i ∈ Y, i < w.heap.size := by
  cases s with
  | none => obtain ⟨_, rfl⟩ := h; intro i hi; cases hi
  | some s =>
    obtain ⟨C, L, _, rfl, hc⟩ := h
    intro i hi
    simp only [List.mem_cons, List.not_mem_nil, or_false] at hi
    rcases hi with rfl | rfl
    · exact hc.mod.clt
    · exact hc.mod.llt
theorem CodIs.keep {w w' : World} {k : PkS} {cv : Value} {Y : List Nat} {s : CodS} (h : CodIs w k cv Y s) (hk : ∀ i ∈ Y, w'.heap[i]? = w.heap[i]?) : CodIs w' k cv Y s := by
  cases s with
  | none => exact h
  | some s =>
    obtain ⟨C, L, e, rfl, hc⟩ := h
    exact ⟨C, L, e, rfl, hc.keep (hk C (by simp)) (hk L (by simp))⟩
theorem CodIs.below {w w' : World} {k : PkS} {cv : Value} {Y : List Nat} {s : CodS} (h : CodIs w k cv Y s) (hb : Below w.heap.size w w') : CodIs w' k cv Y s := h.keep fun i hi => hb.block i (h.lt i hi)
/-- A packer's block is none of its coder's; nor are bytes of one's own. -/
theorem CodIs.apart {w : World} {k : PkS} {cv : Value} {Y : List Nat} {s : CodS} (h : CodIs w k cv Y s) {j : Nat} {cs : Array Value} {t : TypeId} {x : Nat × Nat} (hj : w.heap[j]? = some (.cells cs t x)) (h1 : t ≠ 83) (h2 : t ≠ 154) : j ∉ Y := by
  cases s with
  | none => obtain ⟨_, rfl⟩ := h; intro hi; cases hi
  | some s =>
    obtain ⟨C, L, _, rfl, hc⟩ := h
    intro hi
    simp only [List.mem_cons, List.not_mem_nil, or_false] at hi
    rcases hi with rfl | rfl
    · obtain ⟨T, hT, _⟩ := hc.mod.box
      rw [hj] at hT; injection hT with hT; injection hT with _ e _; exact h1 e
    · obtain ⟨T, hT, _⟩ := hc.mod.lits
      rw [hj] at hT; injection hT with hT; injection hT with _ e _; exact h2 e
/-- The packer and its coder. -/
structure Pk (w : World) (p : Nat) (k : PkS) (s : CodS) (had : Bool) (Y : List Nat) : Prop where
  ex : ∃ cv, PkAt w p k cv had ∧ CodIs w k cv Y s
theorem Pk.lt {w : World} {p : Nat} {k : PkS} {s : CodS} {had : Bool} {Y : List Nat} (h : Pk w p k s had Y) : p < w.heap.size := by
  obtain ⟨cv, h1, _⟩ := h.ex; exact h1.lt
theorem Pk.ltY {w : World} {p : Nat} {k : PkS} {s : CodS} {had : Bool} {Y : List Nat} (h : Pk w p k s had Y) : ∀ i ∈ Y, i < w.heap.size := by
  obtain ⟨cv, _, h2⟩ := h.ex; exact h2.lt
theorem Pk.below {w w' : World} {p : Nat} {k : PkS} {s : CodS} {had : Bool} {Y : List Nat} (h : Pk w p k s had Y) (hb : Below w.heap.size w w') : Pk w' p k s had Y := by
  obtain ⟨cv, h1, h2⟩ := h.ex
  exact ⟨cv, h1.below hb, h2.below hb⟩
theorem Pk.keep {w w' : World} {p : Nat} {k : PkS} {s : CodS} {had : Bool} {Y : List Nat} (h : Pk w p k s had Y) (hk : ∀ i ∈ p :: Y, w'.heap[i]? = w.heap[i]?) : Pk w' p k s had Y := by
  obtain ⟨cv, h1, h2⟩ := h.ex
  exact ⟨cv, h1.keep (hk p (by simp)), h2.keep fun i hi => hk i (by simp [hi])⟩
/-- Bytes of one's own lie apart from the packer and its coder. -/
theorem Pk.own {base : Nat} {w : World} {p : Nat} {k : PkS} {s : CodS} {had : Bool} {Y : List Nat} (h : Pk w p k s had Y) {v : Value} {l : List UInt8} (ho : Own base w v l) : ∀ g, v.ownBlock = some g → g ∉ p :: Y := by
  obtain ⟨cv, h1, h2⟩ := h.ex
  intro g hg
  rcases ho with ⟨_, ⟨rfl, _⟩ | ⟨g', cap', cur, rfl, _, h4, _⟩⟩
  · cases hg
  · have e : g' = g := by simpa [Value.ownBlock] using hg
    subst e
    intro hi
    rcases List.mem_cons.1 hi with rfl | hi
    · unfold PkAt at h1
      rw [h4] at h1; injection h1 with h1; injection h1 with _ e _; revert e; decide
    · exact h2.apart h4 (by decide) (by decide) hi
/-- What the coder comes to behind symbols that stand from a place on. -/
def putAll (lc lp pb : Nat) (D : List UInt8) : List Sy → Nat → Nat × R4 × EncS → Nat × R4 × EncS
  | [], _, z => z
  | s :: l, p, z => putAll lc lp pb D l (p + max s.l 1) ((Md.sym (encIo 0) lc lp pb z.1 z.2.1 (D.take p) (s.k : Nat) s.b (s.l : Nat) (s.d : Nat) (s.r : Nat) z.2.2).2)
/-- A part: its symbols. -/
def partSyms (k : PkS) (a b : Nat) (r : R4) : List Sy := (symsOf k.D (k.dict : Nat) k.nice b (b - a) a r).1
/-- A part's coded bytes, and the coder then. -/
def codeOf (k : PkS) (a b : Nat) (s : Nat × R4 × (Nat → Nat)) : List UInt8 × (Nat × R4 × (Nat → Nat)) :=
  let z := putAll k.lc k.lp k.pb k.D (partSyms k a b s.2.1) a (s.1, s.2.1, (s.2.2, st0))
  (Rc.be (5 + z.2.2.2.k) z.2.2.2.v, (z.1, z.2.1, z.2.2.1))
end Go.Proofs.YtklkboplkobhgaaGreat
