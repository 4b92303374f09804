/- A slice of one-cell elements of the call's own: what it holds, and appends to it. -/
import Derived.Test.YtklkboplkobhgaaGreatBase
namespace Go.Proofs.YtklkboplkobhgaaGreat
set_option maxRecDepth 100000
open Go.RowKit

/-- A slice value of the call's own, from block base on (or nil). -/
def OwnV (t : TypeId) (base : Nat) (w : World) (v : Value) (l : List Value) : Prop := w.ownsRow base t 1 v l.length l
/-- What an append wants to know of the element's type. -/
structure Elem (ts t : TypeId) (z : Value) (bytes : Nat) : Prop where
  und : Tryz.prog.underlying ts = some (.slice t)
  info : (Tryz.prog.info? t).map (fun i => (i.zero, i.size, i.bytes)) = some (some z, 1, bytes)
  one : z.cells.size = 1

theorem OwnV.nil (t : TypeId) (base : Nat) (w : World) : OwnV t base w (.slice none 0 0) [] := World.ownsRow_nil w base _ 1
theorem OwnV.keep {t : TypeId} {base : Nat} {w w' : World} {v : Value} {l : List Value} (h : OwnV t base w v l) (hb : ∀ g, v.ownBlock = some g → w'.heap[g]? = w.heap[g]?) : OwnV t base w' v l := by
  rcases h with ⟨h1, h2 | ⟨g, cap, cur, h2, h3, h4, h5⟩⟩
  · exact ⟨h1, .inl h2⟩
  · exact ⟨h1, .inr ⟨g, cap, cur, h2, h3, (hb g (by rw [h2]; rfl)).trans h4, h5⟩⟩
theorem OwnV.lt {t : TypeId} {base : Nat} {w : World} {v : Value} {l : List Value} (h : OwnV t base w v l) (g : Nat) (hg : v.ownBlock = some g) : base ≤ g ∧ g < w.heap.size := World.ownsRow.lt h g hg
theorem OwnV.below {t : TypeId} {base : Nat} {w w' : World} {v : Value} {l : List Value} (h : OwnV t base w v l) (hb : Below w.heap.size w w') : OwnV t base w' v l := h.keep fun g hg => hb.block g (h.lt g hg).2
theorem OwnV.alloc {t : TypeId} {base : Nat} {w : World} {v : Value} {l : List Value} (h : OwnV t base w v l) (o : Obj) : OwnV t base (w.alloc o) v l := h.below ((Below.refl _ _).alloc (Nat.le_refl _) _)
theorem OwnV.drew {t : TypeId} {base : Nat} {w : World} {v : Value} {l : List Value} (h : OwnV t base w v l) : OwnV t base w.drew v l := h
theorem OwnV.drewN {t : TypeId} {base : Nat} {w : World} {v : Value} {l : List Value} (h : OwnV t base w v l) (n : Nat) : OwnV t base (w.drewN n) v l := h
theorem OwnV.grown {t : TypeId} {base : Nat} {w w' : World} {v v2 : Value} {l : List Value} (h : OwnV t base w v l) (hg : w.grownBy w' v2.ownBlock) (hne : ∀ g, v.ownBlock = some g → v2.ownBlock ≠ some g) : OwnV t base w' v l :=
  h.keep fun g e => hg.block g (h.lt g e).2 (fun h2 => hne g e h2.symm)
/-- Its form: nil, or a block's begin. -/
theorem OwnV.form {t : TypeId} {base : Nat} {w : World} {v : Value} {l : List Value} (h : OwnV t base w v l) :
    (v = .slice none 0 0 ∧ l = []) ∨ ∃ g cap, v = .slice (some ⟨g, 0, none⟩) l.length cap ∧ base ≤ g ∧ g < w.heap.size ∧ l.length ≤ cap ∧ cap ≤ 9223372036854775807 ∧ ∀ i (h : i < l.length), w.cell? ⟨g, i, none⟩ = some l[i] := by
  have hc := fun (g cap : Nat) (e : v = .slice (some ⟨g, 0, none⟩) l.length cap) (i : Nat) (hi : i < l.length) => World.ownsRow.cellAt (e ▸ h) i (by omega)
  rcases h with ⟨h1, ⟨h2, h3⟩ | ⟨g, cap, cur, h2, h3, h4, h5, h6, h7, h8⟩⟩
  · exact .inl ⟨h2, List.eq_nil_of_length_eq_zero h3⟩
  · refine .inr ⟨g, cap, h2, h3, ?_, h5, by unfold maxLen at h6; exact h6, fun i hi => ?_⟩
    · rcases Nat.lt_or_ge g w.heap.size with h | h
      · exact h
      · rw [Array.getElem?_eq_none h] at h4; cases h4
    · rw [hc g cap h2 i hi, List.getElem?_eq_getElem hi]
theorem OwnV.read {t : TypeId} {base : Nat} {w : World} {v : Value} {l : List Value} (h : OwnV t base w v l) :
    ∃ A c, v = .slice A l.length c ∧ l.length ≤ c ∧ c ≤ 9223372036854775807 ∧ (∀ i (h : i < l.length), ∃ g, A = some ⟨g, 0, none⟩ ∧ w.cell? ⟨g, i, none⟩ = some l[i]) := by
  rcases h.form with ⟨rfl, rfl⟩ | ⟨g, cap, rfl, _, _, hc, hm, hcell⟩
  · exact ⟨none, 0, rfl, by simp, by omega, fun i hi => by simp at hi⟩
  · exact ⟨_, cap, rfl, hc, hm, fun i hi => ⟨g, rfl, hcell i hi⟩⟩
theorem OwnV.some_of_pos {t : TypeId} {base : Nat} {w : World} {v : Value} {l : List Value} (h : OwnV t base w v l) (hl : 0 < l.length) :
    ∃ g cap, v = .slice (some ⟨g, 0, none⟩) l.length cap ∧ base ≤ g ∧ g < w.heap.size ∧ l.length ≤ cap ∧ cap ≤ 9223372036854775807 ∧ ∀ i (h : i < l.length), w.cell? ⟨g, i, none⟩ = some l[i] := by
  rcases h.form with ⟨_, rfl⟩ | h
  · simp at hl
  · exact h
/-- A literal's block. -/
theorem OwnV.lit {base : Nat} (t : TypeId) (w : World) (l : List Value) (hb : base ≤ w.heap.size) (hm : l.length ≤ 9223372036854775807) : OwnV t base (w.alloc (.cells l.toArray t)) (.slice (some ⟨w.heap.size, 0, none⟩) l.length l.length) l := by
  have := World.ownsRow_lit (base := base) (e := t) (size := 1) w l.toArray l.length hb (by unfold maxLen; exact hm) (by simp)
  simpa [OwnV] using this
theorem below_grown2 {B : Nat} {a w w' : World} (h : Below B a w) {v : Value} (hg : w.grownBy w' v.ownBlock) (hB : B ≤ w.heap.size) (hr : ∀ g, v.ownBlock = some g → B ≤ g) : Below B a w' := below_grown h hg hB hr

set_option maxRecDepth 100000 in
theorem run_append_vals {ts t : TypeId} {z : Value} {bytes : Nat} (hE : Elem ts t z bytes) (base : Nat) (ty : TypeId) (w : World) (v : Value) (l : List Value) (hown : OwnV t base w v l) (hh m c : Nat) (news : List Value) (hl : news.length = m)
    (hc : ∀ i (h : i < news.length), w.cell? ⟨hh, i, none⟩ = some news[i]) (h1 : ∀ u ∈ news, u.oneCell' = true) (hsz : (l.length + m) * bytes ≤ 140737488355328) (h63 : l.length + m ≤ 140737488355328) (hbase : base ≤ w.heap.size) :
    ∃ v' w', (Builtin.append_ #[ts, ts] ty #[v, .slice (some ⟨hh, 0, none⟩) m c]).run Tryz.prog w = .ok v' w' ∧ OwnV t base w' v' (l ++ news) ∧ w.grownBy w' v.ownBlock ∧ (v'.ownBlock = v.ownBlock ∨ v'.ownBlock = some w.heap.size) := by
  obtain ⟨i, hi, hz0, hz1, hz2⟩ := info_parts hE.info
  obtain ⟨v', w', hr, h2, h3, _, h5⟩ := run_append_own_at (P := Tryz.prog) w base ts ty t i z 1 bytes hE.und hi hz0 hz1 hz2 hE.one (by decide)
    v l.length l hown ⟨hh, 0, none⟩ m c news (by omega) (by
      intro j u hu
      have hj : j < news.length := by
        rcases Nat.lt_or_ge j news.length with h | h
        · exact h
        · rw [List.getElem?_eq_none h] at hu; cases hu
      have := hc j hj
      rw [List.getElem?_eq_getElem hj] at hu
      injection hu with hu
      rw [← hu, ← this, show (⟨hh, 0, none⟩ : Addr).add j = ⟨hh, j, none⟩ from by unfold Addr.add; split <;> simp_all]) h1 (by unfold maxLen; omega) hsz hbase
  exact ⟨v', w', hr, by simpa [OwnV, hl] using h2, h3, h5⟩
theorem wpList_append_vals {ts t : TypeId} {z : Value} {bytes : Nat} (hE : Elem ts t z bytes) {ops : Array Oper} {rest : List Oper} {o : Oper} {a : Act} {Q : Exit → Act → World → Prop} (hgd : o.guard = none) (s x : Operand)
    (ho : o.op = .call { callee := .builtin .append, args := #[s, x], argTypes := #[ts, ts] })
    (base : Nat) (w : World) (v : Value) (l : List Value) (hs : a.eval s = v) (hown : OwnV t base w v l) (hh m c : Nat) (news : List Value) (hx : a.eval x = .slice (some ⟨hh, 0, none⟩) m c) (hl : news.length = m)
    (hc : ∀ i (h : i < news.length), w.cell? ⟨hh, i, none⟩ = some news[i]) (h1 : ∀ u ∈ news, u.oneCell' = true) (hsz : (l.length + m) * bytes ≤ 140737488355328) (h63 : l.length + m ≤ 140737488355328) (hbase : base ≤ w.heap.size)
    (h : ∀ v' w', OwnV t base w' v' (l ++ news) → w.grownBy w' v.ownBlock → (v'.ownBlock = v.ownBlock ∨ v'.ownBlock = some w.heap.size) → wpList Tryz.prog ops Q rest (a.put o.dst v') w') : wpList Tryz.prog ops Q (o :: rest) a w := by
  refine wpList_plain hgd fun K hK => ?_
  obtain ⟨v', w', hr, h2, h3, h4⟩ := run_append_vals hE base o.type w v l hown hh m c news hl hc h1 hsz h63 hbase
  unfold Oper.wp execOp
  simp only [ho, resolve, invoke, builtin, Sem.run_bind, Sem.run_pure, Result.andThen_ok, List.map_toArray, List.map_cons, List.map_nil, hs, hx, hr]
  exact hK _ _ (h v' w' h2 h3 h4)
/-- The same at a step of a region that draws its order. -/
theorem step_append_vals {ts t : TypeId} {z : Value} {bytes : Nat} (hE : Elem ts t z bytes) {ops : Array Oper} {o : Oper} {a : Act} {K : Act → World → Prop} {Q : Exit → Act → World → Prop} (hgd : o.guard = none) (s x : Operand)
    (ho : o.op = .call { callee := .builtin .append, args := #[s, x], argTypes := #[ts, ts] })
    (base : Nat) (w : World) (v : Value) (l : List Value) (hs : a.eval s = v) (hown : OwnV t base w v l) (hh m c : Nat) (news : List Value) (hx : a.eval x = .slice (some ⟨hh, 0, none⟩) m c) (hl : news.length = m)
    (hc : ∀ i (h : i < news.length), w.cell? ⟨hh, i, none⟩ = some news[i]) (h1 : ∀ u ∈ news, u.oneCell' = true) (hsz : (l.length + m) * bytes ≤ 140737488355328) (h63 : l.length + m ≤ 140737488355328) (hbase : base ≤ w.heap.size)
    (h : ∀ v' w', OwnV t base w' v' (l ++ news) → w.grownBy w' v.ownBlock → (v'.ownBlock = v.ownBlock ∨ v'.ownBlock = some w.heap.size) → K (a.put o.dst v') w') : if Region.wanted o (yielded ops a.tmps) = true then Oper.wp Tryz.prog o a w K Q else K (a.put o.dst undef) w := by
  rw [if_pos (by simp [Region.wanted, hgd])]
  obtain ⟨v', w', hr, h2, h3, h4⟩ := run_append_vals hE base o.type w v l hown hh m c news hl hc h1 hsz h63 hbase
  unfold Oper.wp execOp
  simp only [ho, resolve, invoke, builtin, Sem.run_bind, Sem.run_pure, Result.andThen_ok, List.map_toArray, List.map_cons, List.map_nil, hs, hx, hr]
  exact h v' w' h2 h3 h4
/-- A block just made, one element. -/
theorem lit_cell1 (w : World) (u : Value) (t : TypeId) : ∀ i (h : i < [u].length), (w.alloc (.cells #[u] t)).cell? ⟨w.heap.size, i, none⟩ = some [u][i] := by
  intro i hi
  obtain rfl : i = 0 := by simpa using hi
  rw [cell_of_row _ _ _ _ _ _ (heap_alloc_last _ _)]; rfl
theorem lit_cells (w : World) (l : List Value) (t : TypeId) : ∀ i (h : i < l.length), (w.alloc (.cells l.toArray t)).cell? ⟨w.heap.size, i, none⟩ = some l[i] := by
  intro i hi
  rw [cell_of_row _ _ _ _ _ _ (heap_alloc_last _ _), List.getElem?_toArray, List.getElem?_eq_getElem hi]
end Go.Proofs.YtklkboplkobhgaaGreat
