/- Several texts in one: CoRead, CoRead2, CoNew, CoBec, CoBec2, CoGrow. -/
import Derived.Test.YtklkboplkobhgaaSyBase
import Derived.Lib.MinMax
import Derived.Deep.CutBlock
import Derived.Deep.DeepCutAuto
import Derived.Deep.RegionHeld3
/- The reference's coder: what only reads: Fits, Dist, Plain, Two. -/
namespace Go.Proofs.Ytklkboplkobhgaa
set_option maxRecDepth 100000
open Go.RowKit

theorem OwnV.apart {t t' : TypeId} {base : Nat} {w : World} {v : Value} {l : List Value} (h : OwnV t base w v l) {C : Nat} {cs : Array Value} {x : Nat × Nat} (hC : w.heap[C]? = some (.cells cs t' x)) (hne : t ≠ t') : v.ownBlock ≠ some C := by
  intro e
  rcases h with ⟨_, ⟨rfl, _⟩ | ⟨g, cap, cur, rfl, _, hg, _⟩⟩
  · cases e
  · injection e with e
    subst e
    rw [hC] at hg
    injection hg with hg
    injection hg with _ hg _
    exact hne hg.symm
abbrev rc4 (r : R4) : List Value := [.int .i64 r.1, .int .i64 r.2.1, .int .i64 r.2.2.1, .int .i64 r.2.2.2]
def rAt (r : R4) (q : Int) : Int := r4 r.1 r.2.1 r.2.2.1 r.2.2.2 q.toNat
def fitsZ (r : R4) (n k l d q : Int) : Bool :=
  if k = 1 then decide (2 ≤ l ∧ l ≤ 273 ∧ 1 ≤ d ∧ d ≤ n ∧ d ≤ 4294967295)
  else if k = 2 then decide (0 ≤ q ∧ q ≤ 3 ∧ rAt r q ≤ n ∧ ((2 ≤ l ∧ l ≤ 273) ∨ (l = 1 ∧ q = 0)))
  else decide (k = 0)
def SBool (b : Bool) (w : World) (e : Ending) (w' : World) : Prop := e = .returned (.bool b) ∧ Below w.heap.size w w'
end Go.Proofs.Ytklkboplkobhgaa

/- The reference's coder: Dist and Plain. -/
namespace Go.Proofs.Ytklkboplkobhgaa
set_option maxRecDepth 100000
open Go.RowKit

def distZ (r : R4) (k d q : Int) : Int := if k = 1 then d else if k = 2 then rAt r q else 0
def SInt (n : Int) (w : World) (e : Ending) (w' : World) : Prop := e = .returned (.int .i64 n) ∧ Below w.heap.size w w'
theorem sy_box {w W1 : World} {v0 v1 v2 v3 v4 : Value} (hW1 : w.alloc (.cells #[v0, v1, v2, v3, v4] 91) = W1) : W1.cell? ⟨w.heap.size, 0, none⟩ = some v0 ∧ W1.cell? ⟨w.heap.size, 1, none⟩ = some v1 ∧ W1.cell? ⟨w.heap.size, 2, none⟩ = some v2 ∧ W1.cell? ⟨w.heap.size, 3, none⟩ = some v3 ∧ W1.cell? ⟨w.heap.size, 4, none⟩ = some v4 ∧ Below w.heap.size w W1 := by
  have hr : W1.heap[w.heap.size]? = some (.cells [v0, v1, v2, v3, v4].toArray 91 (0, 0)) := by rw [← hW1]; exact heap_alloc_last _ _
  refine ⟨?_, ?_, ?_, ?_, ?_, by rw [← hW1]; exact (Below.refl _ _).alloc (Nat.le_refl _) _⟩ <;> (rw [cell_of_row W1 _ _ _ _ _ hr]; rfl)
def plainZ (k : Int) (b : UInt8) (l d q : Int) : Value := if k = 0 then SyV 0 b 0 0 0 else if k = 1 then SyV 1 0 l d 0 else SyV 2 0 l 0 q
def SVal (v : Value) (w : World) (e : Ending) (w' : World) : Prop := e = .returned v ∧ Below w.heap.size w w'
end Go.Proofs.Ytklkboplkobhgaa

/- The reference's coder: Two and New. -/
namespace Go.Proofs.Ytklkboplkobhgaa
set_option maxRecDepth 100000
open Go.RowKit

theorem elem16 : Elem 114 61 (.int .u16 0) 2 := ⟨Try.underlying114, by kernel_rfl, rfl⟩
theorem elemI : Elem 110 3 (.int .i64 0) 8 := ⟨Try.underlying110, by kernel_rfl, rfl⟩
section
variable {w w' : World} {C base : Nat} {lc lp pb st : Int} {r : R4} {P P' : List Nat} {vR vP vP' : Value}
theorem OwnV.setOther {t : TypeId} {base : Nat} {w : World} {v : Value} {l : List Value} (h : OwnV t base w v l) {p : Addr} (hp : v.ownBlock ≠ some p.block) (u : Value) : OwnV t base (w.setCell p u) v l :=
  h.keep fun g hg => heap_setCell_other _ _ _ _ (fun e => hp (by rw [hg, e]))
end
theorem rep_len (k : Nat) : ((List.replicate k 1024).map (fun x : Nat => Value.int .u16 (x : Nat))).length = k := by simp
theorem rep_succ (k : Nat) : (List.replicate (k + 1) 1024).map (fun x : Nat => Value.int .u16 (x : Nat)) = (List.replicate k 1024).map (fun x : Nat => Value.int .u16 (x : Nat)) ++ [.int .u16 1024] := by
  rw [List.replicate_succ', List.map_append]; rfl
end Go.Proofs.Ytklkboplkobhgaa

/- The reference's coder: Becomes. -/
namespace Go.Proofs.Ytklkboplkobhgaa
set_option maxRecDepth 100000
open Go.RowKit

def stateAfter (st k l : Int) : Int :=
  if k = 0 then (if st < 4 then 0 else if st < 10 then st - 3 else st - 6)
  else if k = 1 then (if 7 ≤ st then 10 else 7)
  else if 7 ≤ st then 11 else if l = 1 then 9 else 8
def repsAfter (r : R4) (k d q : Int) : R4 :=
  if k = 0 then r
  else if k = 1 then (d, r.1, r.2.1, r.2.2.1)
  else if q = 0 then r
  else if q = 1 then (r.2.1, r.1, r.2.2.1, r.2.2.2)
  else if q = 2 then (r.2.2.1, r.1, r.2.1, r.2.2.2)
  else (r.2.2.2, r.1, r.2.1, r.2.2.1)
section
variable {w w' : World} {C base : Nat} {lc lp pb st : Int} {r : R4} {P P' : List Nat} {vR vP vP' : Value}
end
theorem only_of_below {w w' : World} {C : Nat} (h : Below w.heap.size w w') : w.grownBy w' (some C) := ⟨h.os, h.tape, h.output, h.size, fun k hk _ => h.block k hk⟩
theorem only_trans {w a b : World} {C : Nat} (h : w.grownBy a (some C)) (k : a.grownBy b (some C)) : w.grownBy b (some C) :=
  ⟨k.os.trans h.os, k.tape.trans h.tape, k.output.trans h.output, Nat.le_trans h.size k.size, fun i hi hne => (k.block i (Nat.lt_of_lt_of_le hi h.size) hne).trans (h.block i hi hne)⟩
theorem only_set {w a : World} {C : Nat} (h : w.grownBy a (some C)) (i : Nat) (v : Value) : w.grownBy (a.setCell ⟨C, i, none⟩ v) (some C) :=
  ⟨h.os, h.tape, h.output, by have := h.size; simpa [World.setCell] using this, fun k hk hne => (heap_setCell_other _ _ _ _ (fun e => hne (by rw [e]))).trans (h.block k hk hne)⟩
end Go.Proofs.Ytklkboplkobhgaa

/- The reference's coder: Becomes behind a repeat. -/
namespace Go.Proofs.Ytklkboplkobhgaa
set_option maxRecDepth 100000
open Go.RowKit

abbrev R4.at (r : R4) : Nat → Int := r4 r.1 r.2.1 r.2.2.1 r.2.2.2
def lstQ (r : R4) (q i : Nat) : List Value := .int .i64 (r.at q) :: ((List.range i).filter fun j => j != q).map fun j => .int .i64 (r.at j)
theorem lstQ_succ (r : R4) (q i : Nat) : lstQ r q (i + 1) = lstQ r q i ++ (if i = q then [] else [.int .i64 (r.at i)]) := by
  unfold lstQ
  rw [List.range_succ, List.filter_append, List.map_append, List.cons_append]
  congr 2
  by_cases h : i = q
  · simp [h]
  · simp [h]
theorem lstQ_len (r : R4) (q i : Nat) : 0 < (lstQ r q i).length ∧ (lstQ r q i).length ≤ i + 1 := by
  unfold lstQ
  have := List.length_filter_le (fun j => j != q) (List.range i)
  simp at this ⊢
  exact this
theorem lstQ_end (r : R4) (q : Nat) (hq : q ≤ 3) (d : Int) : lstQ r q 4 = rc4 (repsAfter r 2 d (q : Nat)) := by
  rcases (by omega : q = 0 ∨ q = 1 ∨ q = 2 ∨ q = 3) with rfl | rfl | rfl | rfl <;> rfl
theorem OwnV.weaken {t : TypeId} {base base' : Nat} {w : World} {v : Value} {l : List Value} (h : OwnV t base w v l) (hb : base' ≤ base) : OwnV t base' w v l := by
  rcases h with ⟨h1, h2 | ⟨g, cap, cur, h2, h3, h4⟩⟩
  · exact ⟨h1, .inl h2⟩
  · exact ⟨h1, .inr ⟨g, cap, cur, h2, Nat.le_trans hb h3, h4⟩⟩
end Go.Proofs.Ytklkboplkobhgaa

/- The reference's Grow. -/
namespace Go.Proofs.Ytklkboplkobhgaa
set_option maxRecDepth 100000
open Go.RowKit

theorem Own.weaken {base base' : Nat} {w : World} {v : Value} {l : List UInt8} (h : Own base w v l) (hb : base' ≤ base) : Own base' w v l := by
  rcases h with ⟨h1, h2 | ⟨g, cap, cur, h2, h3, h4⟩⟩
  · exact ⟨h1, .inl h2⟩
  · exact ⟨h1, .inr ⟨g, cap, cur, h2, Nat.le_trans hb h3, h4⟩⟩
def growN (h : List UInt8) (back : Nat) : Nat → List UInt8
  | 0 => h
  | n + 1 => growN h back n ++ [(growN h back n).getD ((growN h back n).length - back) 0]
theorem growN_length (h : List UInt8) (back : Nat) : ∀ n, (growN h back n).length = h.length + n
  | 0 => rfl
  | n + 1 => by
    unfold growN
    rw [List.length_append, growN_length h back n]; rfl
def growS (h : List UInt8) (k : Int) (b : UInt8) (l : Nat) (back : Nat) : List UInt8 := if k = 0 then h ++ [b] else growN h back l
def GrowDone (L : List UInt8) (w : World) (e : Ending) (w' : World) : Prop := ∃ v, e = .returned v ∧ Own w.heap.size w' v L ∧ Below w.heap.size w w'
theorem empty_own (w : World) : Own w.heap.size (w.alloc (.cells #[] 5)) (.slice (some ⟨w.heap.size, 0, none⟩) 0 0) [] := Own.lit w [] (Nat.le_refl _) (by simp)
theorem lit_bytes (w : World) (x : UInt8) : Bytes (w.alloc (.cells #[.int .u8 (x.toNat : Nat)] 5)) (some ⟨w.heap.size, 0, none⟩) [x] := by
  refine .inr ⟨_, _, rfl, by simp, fun k hk => ?_⟩
  obtain rfl : k = 0 := by simpa using hk
  rw [Nat.zero_add, cell_of_row _ _ _ _ _ _ (heap_alloc_last _ _)]; rfl
end Go.Proofs.Ytklkboplkobhgaa
