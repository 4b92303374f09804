/- Slices of records (two int64 fields): what one of the call's own holds, and an append of one record. -/
import Derived.Test.YthfmhjpmcapcbaaDoorVals
namespace Go.Proofs.YthfmhjpmcapcbaaDoor
open Go.RowKit

def recCells (l : List (Int × Int)) : List Value := l.flatMap fun r => [Value.int .i64 r.1, Value.int .i64 r.2]
theorem recCells_length (l : List (Int × Int)) : (recCells l).length = l.length * 2 := by
  induction l with
  | nil => rfl
  | cons a l ih => simp only [recCells, List.flatMap_cons, List.length_append, List.length_cons, List.length_nil] at ih ⊢; omega
theorem recCells_append (l m : List (Int × Int)) : recCells (l ++ m) = recCells l ++ recCells m := by simp [recCells]
theorem recCells_get (l : List (Int × Int)) : ∀ i (h : i < l.length), (recCells l)[2 * i]? = some (.int .i64 l[i].1) ∧ (recCells l)[2 * i + 1]? = some (.int .i64 l[i].2) := by
  induction l with
  | nil => intro i h; simp at h
  | cons a l ih =>
    intro i h
    cases i with
    | zero => exact ⟨rfl, rfl⟩
    | succ i =>
      have := ih i (by simpa using h)
      rw [show 2 * (i + 1) = 2 * i + 1 + 1 by omega]
      exact this
/-- Records in memory of the call's own, that may be appended to. -/
def OwnR (t : TypeId) (base : Nat) (w : World) (v : Value) (l : List (Int × Int)) : Prop := w.ownsRow base t 2 v l.length (recCells l)
structure Elem2 (ts t : TypeId) (z : Value) (bytes : Nat) : Prop where
  und : Tryd.prog.underlying ts = some (.slice t)
  info : (Tryd.prog.info? t).map (fun i => (i.zero, i.size, i.bytes)) = some (some z, 2, bytes)
  two : z.cells.size = 2
theorem OwnR.nil (t : TypeId) (base : Nat) (w : World) : OwnR t base w (.slice none 0 0) [] := World.ownsRow_nil w base _ 2
theorem OwnR.keep {t : TypeId} {base : Nat} {w w' : World} {v : Value} {l : List (Int × Int)} (h : OwnR t base w v l) (hb : ∀ g, v.ownBlock = some g → w'.heap[g]? = w.heap[g]?) : OwnR t base w' v l := by
  rcases h with ⟨h1, h2 | ⟨g, cap, cur, h2, h3, h4, h5⟩⟩
  · exact ⟨h1, .inl h2⟩
  · exact ⟨h1, .inr ⟨g, cap, cur, h2, h3, (hb g (by rw [h2]; rfl)).trans h4, h5⟩⟩
theorem OwnR.lt {t : TypeId} {base : Nat} {w : World} {v : Value} {l : List (Int × Int)} (h : OwnR t base w v l) (g : Nat) (hg : v.ownBlock = some g) : base ≤ g ∧ g < w.heap.size := World.ownsRow.lt h g hg
theorem OwnR.below {t : TypeId} {base : Nat} {w w' : World} {v : Value} {l : List (Int × Int)} (h : OwnR t base w v l) (hb : Below w.heap.size w w') : OwnR t base w' v l := h.keep fun g hg => hb.block g (h.lt g hg).2
theorem OwnR.alloc {t : TypeId} {base : Nat} {w : World} {v : Value} {l : List (Int × Int)} (h : OwnR t base w v l) (o : Obj) : OwnR t base (w.alloc o) v l := h.below ((Below.refl _ _).alloc (Nat.le_refl _) _)
/-- A store elsewhere. -/
theorem OwnR.set {t : TypeId} {base : Nat} {w : World} {v : Value} {l : List (Int × Int)} (h : OwnR t base w v l) {p : Addr} (hp : p.block < base) (u : Value) : OwnR t base (w.setCell p u) v l := h.keep fun g hg => heap_setCell_other _ _ _ _ (by have := (h.lt g hg).1; omega)

set_option maxRecDepth 100000 in
theorem run_append_rec {ts t : TypeId} {z : Value} {bytes : Nat} (hE : Elem2 ts t z bytes) (base : Nat) (ty : TypeId) (w : World) (v : Value) (l : List (Int × Int)) (hown : OwnR t base w v l) (hh c : Nat) (r : Int × Int)
    (h0 : w.cell? ⟨hh, 0, none⟩ = some (.int .i64 r.1)) (h1 : w.cell? ⟨hh, 1, none⟩ = some (.int .i64 r.2)) (hsz : (l.length + 1) * bytes ≤ 140737488355328) (h63 : l.length + 1 ≤ 140737488355328) (hbase : base ≤ w.heap.size) :
    ∃ v' w', (Builtin.append_ #[ts, ts] ty #[v, .slice (some ⟨hh, 0, none⟩) 1 c]).run Tryd.prog w = .ok v' w' ∧ OwnR t base w' v' (l ++ [r]) ∧ w.grownBy w' v.ownBlock := by
  obtain ⟨i, hi, hz⟩ := Option.map_eq_some_iff.1 hE.info
  injection hz with hz0 hz; injection hz with hz1 hz2
  obtain ⟨v', w', hr, h2, h3, _⟩ := run_append_own (P := Tryd.prog) w base ts ty t i z 2 bytes hE.und hi hz0 hz1 hz2 hE.two (by decide)
    v l.length (recCells l) hown ⟨hh, 0, none⟩ 1 c (recCells [r]) (by rw [recCells_length]; rfl) (by
      intro j u hu
      have e : (⟨hh, 0, none⟩ : Addr).add j = ⟨hh, j, none⟩ := by unfold Addr.add; split <;> simp_all
      rw [e]
      match j, hu with
      | 0, hu => rw [h0]; exact hu
      | 1, hu => rw [h1]; exact hu
      | j + 2, hu => simp [recCells] at hu) (by intro u hu; simp [recCells] at hu; rcases hu with rfl | rfl <;> rfl) (by unfold maxLen; omega) hsz hbase
  exact ⟨v', w', hr, by unfold OwnR; rw [recCells_append]; simpa using h2, h3⟩
theorem wpList_append_rec {ts t : TypeId} {z : Value} {bytes : Nat} (hE : Elem2 ts t z bytes) {ops : Array Oper} {rest : List Oper} {o : Oper} {a : Act} {Q : Exit → Act → World → Prop} (hgd : o.guard = none) (s x : Operand)
    (ho : o.op = .call { callee := .builtin .append, args := #[s, x], argTypes := #[ts, ts] })
    (base : Nat) (w : World) (v : Value) (l : List (Int × Int)) (hs : a.eval s = v) (hown : OwnR t base w v l) (hh c : Nat) (r : Int × Int) (hx : a.eval x = .slice (some ⟨hh, 0, none⟩) 1 c)
    (h0 : w.cell? ⟨hh, 0, none⟩ = some (.int .i64 r.1)) (h1 : w.cell? ⟨hh, 1, none⟩ = some (.int .i64 r.2)) (hsz : (l.length + 1) * bytes ≤ 140737488355328) (h63 : l.length + 1 ≤ 140737488355328) (hbase : base ≤ w.heap.size)
    (h : ∀ v' w', OwnR t base w' v' (l ++ [r]) → w.grownBy w' v.ownBlock → wpList Tryd.prog ops Q rest (a.put o.dst v') w') : wpList Tryd.prog ops Q (o :: rest) a w := by
  refine wpList_plain hgd fun K hK => ?_
  obtain ⟨v', w', hr, h2, h3⟩ := run_append_rec hE base o.type w v l hown hh c r h0 h1 hsz h63 hbase
  unfold Oper.wp execOp
  simp only [ho, resolve, invoke, builtin, Sem.run_bind, Sem.run_pure, Result.andThen_ok, List.map_toArray, List.map_cons, List.map_nil, hs, hx, hr]
  exact hK _ _ (h v' w' h2 h3)
end Go.Proofs.YthfmhjpmcapcbaaDoor
