/- Slices of filters of the call's own; a store into bytes of the call's own. -/
import Derived.Test.YtaggkcgeddoogaaDoorHdNum
import Derived.Test.YtaggkcgeddoogaaDoorHdFilters
import Derived.Test.YtaggkcgeddoogaaDoorVals
namespace Go.Proofs.YtaggkcgeddoogaaDoor
open Go.RowKit

def filCells (l : List Fil) : List Value := l.flatMap fun f => [Value.int .i64 f.id, Value.int .u32 (f.n : Nat)]
theorem filCells_length (l : List Fil) : (filCells l).length = l.length * 2 := by
  induction l with
  | nil => rfl
  | cons a l ih => simp only [filCells, List.flatMap_cons, List.length_append, List.length_cons, List.length_nil] at ih ⊢; omega
theorem filCells_append (l m : List Fil) : filCells (l ++ m) = filCells l ++ filCells m := by simp [filCells]
theorem filCells_get (l : List Fil) : ∀ i (h : i < l.length), (filCells l)[i * 2]? = some (.int .i64 l[i].id) ∧ (filCells l)[i * 2 + 1]? = some (.int .u32 (l[i].n : Nat)) := by
  induction l with
  | nil => intro i h; simp at h
  | cons a l ih =>
    intro i h
    cases i with
    | zero => exact ⟨rfl, rfl⟩
    | succ i =>
      have := ih i (by simpa using h)
      rw [show (i + 1) * 2 = i * 2 + 1 + 1 by omega]
      exact this
theorem filCells_one (l : List Fil) : ∀ u ∈ filCells l, u.oneCell' = true := by
  intro u hu
  simp only [filCells, List.mem_flatMap] at hu
  obtain ⟨f, _, hu⟩ := hu
  simp at hu
  rcases hu with rfl | rfl <;> rfl
/-- Filters in memory of the call's own, that may be appended to. -/
def OwnF (base : Nat) (w : World) (v : Value) (l : List Fil) : Prop := w.ownsRow base 48 2 v l.length (filCells l)
theorem infoFil : (Tryd.prog.info? 48).map (fun i => (i.zero, i.size, i.bytes)) = some (some (.agg #[.int .i64 0, .int .u32 0]), 2, 16) := by kernel_rfl
theorem OwnF.nil (base : Nat) (w : World) : OwnF base w (.slice none 0 0) [] := World.ownsRow_nil w base _ 2
theorem OwnF.keep {base : Nat} {w w' : World} {v : Value} {l : List Fil} (h : OwnF base w v l) (hb : ∀ g, v.ownBlock = some g → w'.heap[g]? = w.heap[g]?) : OwnF base w' v l := by
  rcases h with ⟨h1, h2 | ⟨g, cap, cur, h2, h3, h4, h5⟩⟩
  · exact ⟨h1, .inl h2⟩
  · exact ⟨h1, .inr ⟨g, cap, cur, h2, h3, (hb g (by rw [h2]; rfl)).trans h4, h5⟩⟩
theorem OwnF.lt {base : Nat} {w : World} {v : Value} {l : List Fil} (h : OwnF base w v l) (g : Nat) (hg : v.ownBlock = some g) : base ≤ g ∧ g < w.heap.size := World.ownsRow.lt h g hg
theorem OwnF.below {base : Nat} {w w' : World} {v : Value} {l : List Fil} (h : OwnF base w v l) (hb : Below w.heap.size w w') : OwnF base w' v l := h.keep fun g hg => hb.block g (h.lt g hg).2
theorem OwnF.alloc {base : Nat} {w : World} {v : Value} {l : List Fil} (h : OwnF base w v l) (o : Obj) : OwnF base (w.alloc o) v l := h.below ((Below.refl _ _).alloc (Nat.le_refl _) _)
theorem OwnF.weaken {base base' : Nat} {w : World} {v : Value} {l : List Fil} (h : OwnF base w v l) (hb : base' ≤ base) : OwnF base' w v l := by
  rcases h with ⟨h1, h2 | ⟨g, cap, cur, h2, h3, h4⟩⟩
  · exact ⟨h1, .inl h2⟩
  · exact ⟨h1, .inr ⟨g, cap, cur, h2, Nat.le_trans hb h3, h4⟩⟩
theorem OwnF.read {base : Nat} {w : World} {v : Value} {l : List Fil} (h : OwnF base w v l) (hok : ∀ f ∈ l, f.ok) : ∃ A c, v = .slice A l.length c ∧ l.length ≤ c ∧ c ≤ 9223372036854775807 ∧ Fils w A l := by
  rcases h with ⟨h1, ⟨h2, h3⟩ | ⟨g, cap, cur, h2, h3, h4, h5, h6, h7⟩⟩
  · have e : l = [] := List.eq_nil_of_length_eq_zero h3
    subst e
    exact ⟨none, 0, h2, by simp, by omega, .inl rfl⟩
  · refine ⟨_, cap, h2, h5, by unfold maxLen at h6; exact h6, .inr ⟨g, 0, rfl, ?_, fun k hk => ?_⟩⟩
    · rcases Nat.lt_or_ge g w.heap.size with h | h
      · exact h
      · rw [Array.getElem?_eq_none h] at h4; cases h4
    · have e1 : ∀ j, j < l.length * 2 → cur[j]? = (filCells l)[j]? := fun j hj => by
        have h9 := congrArg (fun x : List Value => x[j]?) h7.2
        simpa only [List.getElem?_take, hj, if_true, Array.getElem?_toList] using h9
      have hg := filCells_get l k hk
      rw [Nat.zero_add]
      exact ⟨by rw [cell_of_row w g _ cur _ _ h4]; exact (e1 (k * 2) (by omega)).trans hg.1, by rw [cell_of_row w g _ cur _ _ h4]; exact (e1 (k * 2 + 1) (by omega)).trans hg.2, hok _ (List.getElem_mem hk)⟩
theorem OwnF.fils {base n c : Nat} {w : World} {A : Option Addr} {l : List Fil} (h : OwnF base w (.slice A n c) l) (hok : ∀ f ∈ l, f.ok) : Fils w A l := by
  obtain ⟨A', c', e, _, _, hf⟩ := h.read hok
  injection e with e1 e2 e3
  rw [e1]; exact hf
theorem OwnF.ne {base base' : Nat} {w : World} {v u : Value} {l : List Fil} {m : List UInt8} (h : OwnF base w v l) (ho : Own base' w u m) (g : Nat) (hg : v.ownBlock = some g) : u.ownBlock ≠ some g := by
  intro e
  rcases h with ⟨_, ⟨rfl, _⟩ | ⟨g1, cap, cur, rfl, _, h4, _⟩⟩
  · cases hg
  · injection hg with hg; subst hg
    rcases ho with ⟨_, ⟨rfl, _⟩ | ⟨g2, cap2, cur2, rfl, _, k4, _⟩⟩
    · cases e
    · injection e with e; subst e
      rw [show w.heap[g2]? = _ from k4] at h4
      injection h4 with h4
      injection h4 with _ ht
      exact absurd ht (by decide)
theorem OwnF.ne_box {base bo : Nat} {w : World} {v u : Value} {l : List Fil} (h : OwnF base w v l) (hx : Box bo w u) (g : Nat) (hg : v.ownBlock = some g) : g ≠ bo := by
  intro e
  subst e
  rcases h with ⟨_, ⟨rfl, _⟩ | ⟨g1, cap, cur, rfl, _, h4, _⟩⟩
  · cases hg
  · injection hg with hg; subst hg
    rw [show w.heap[g1]? = _ from hx] at h4
    injection h4 with h4
    injection h4 with _ ht
    exact absurd ht (by decide)

set_option maxRecDepth 100000 in
theorem run_append_fils (base : Nat) (ty : TypeId) (w : World) (v : Value) (xs : List Fil) (hown : OwnF base w v xs) (A : Option Addr) (l : List Fil) (c : Nat) (hF : Fils w A l)
    (hsz : xs.length + l.length ≤ 1000000) (hbase : base ≤ w.heap.size) :
    ∃ v' w', (Builtin.append_ #[22, 22] ty #[v, .slice A l.length c]).run Tryd.prog w = .ok v' w' ∧ OwnF base w' v' (xs ++ l) ∧ w.grownBy w' v.ownBlock := by
  obtain ⟨i, hi, hz⟩ := Option.map_eq_some_iff.1 infoFil
  injection hz with hz0 hz; injection hz with hz1 hz2
  cases A with
  | none =>
    have hl : l = [] := by
      rcases hF with h | ⟨_, _, h, _⟩
      · exact h
      · cases h
    subst hl
    refine ⟨v, w, ?_, by simpa using hown, World.grownBy.refl w _⟩
    rcases hown.2 with ⟨rfl, h0⟩ | ⟨g, cap, cur, rfl, _, _, hnc, _⟩
    · simp [Builtin.append_, run_underlying Tryd.underlying22, sizeOf, typeInfo, hi, Builtin.lenOf, Builtin.firstCells]
    · simp [Builtin.append_, run_underlying Tryd.underlying22, sizeOf, typeInfo, hi, Builtin.lenOf, Builtin.firstCells, hnc, storeCells]
  | some ad =>
    have hnews : ∀ j u, (filCells l)[j]? = some u → w.cell? (ad.add j) = some u := by
      intro j u hu
      by_cases hj : j < l.length * 2
      · obtain ⟨b, off, e, _, hat⟩ := hF.addr (by omega)
        injection e with e; subst e
        rw [show (⟨b, off, none⟩ : Addr).add j = ⟨b, off + j, none⟩ from by unfold Addr.add; split <;> simp_all]
        have h2 := hat (j / 2) (by omega)
        have hg := filCells_get l (j / 2) (by omega)
        rcases Nat.mod_two_eq_zero_or_one j with hm | hm
        · have e2 : j / 2 * 2 = j := by omega
          rw [e2] at hg
          rw [hg.1] at hu
          have := h2.c0
          rw [e2] at this
          rw [this]; exact hu
        · have e2 : j / 2 * 2 + 1 = j := by omega
          rw [e2] at hg
          rw [hg.2] at hu
          have := h2.c1
          rw [show off + j / 2 * 2 + 1 = off + j by omega] at this
          rw [this]; exact hu
      · rw [List.getElem?_eq_none (by rw [filCells_length]; omega)] at hu; simp at hu
    obtain ⟨v', w', hr, h2, h3, _⟩ := run_append_own (P := Tryd.prog) w base 22 ty 48 i (.agg #[.int .i64 0, .int .u32 0]) 2 16 Tryd.underlying22 hi hz0 hz1 hz2 rfl (by decide)
      v xs.length (filCells xs) hown ad l.length c (filCells l) (filCells_length l) hnews (filCells_one l) (by unfold maxLen; omega) (by omega) hbase
    exact ⟨v', w', hr, by unfold OwnF; rw [filCells_append, List.length_append]; exact h2, h3⟩
theorem step_append_fils {ops : Array Oper} {o : Oper} {a : Act} {K : Act → World → Prop} {Q : Exit → Act → World → Prop} (hgd : o.guard = none) (s x : Operand)
    (ho : o.op = .call { callee := .builtin .append, args := #[s, x], argTypes := #[22, 22] })
    (base : Nat) (w : World) (v : Value) (xs : List Fil) (hs : a.eval s = v) (hown : OwnF base w v xs) (A : Option Addr) (l : List Fil) (c : Nat) (hx : a.eval x = .slice A l.length c) (hF : Fils w A l)
    (hsz : xs.length + l.length ≤ 1000000) (hbase : base ≤ w.heap.size)
    (h : ∀ v' w', OwnF base w' v' (xs ++ l) → w.grownBy w' v.ownBlock → K (a.put o.dst v') w') : if Region.wanted o (yielded ops a.tmps) = true then Oper.wp Tryd.prog o a w K Q else K (a.put o.dst undef) w := by
  rw [if_pos (by simp [Region.wanted, hgd])]
  obtain ⟨v', w', hr, h2, h3⟩ := run_append_fils base o.type w v xs hown A l c hF hsz hbase
  unfold Oper.wp execOp
  simp only [ho, resolve, invoke, builtin, Sem.run_bind, Sem.run_pure, Result.andThen_ok, List.map_toArray, List.map_cons, List.map_nil, hs, hx, hr]
  exact h v' w' h2 h3
theorem wpList_append_fils {ops : Array Oper} {rest : List Oper} {o : Oper} {a : Act} {Q : Exit → Act → World → Prop} (hgd : o.guard = none) (s x : Operand)
    (ho : o.op = .call { callee := .builtin .append, args := #[s, x], argTypes := #[22, 22] })
    (base : Nat) (w : World) (v : Value) (xs : List Fil) (hs : a.eval s = v) (hown : OwnF base w v xs) (A : Option Addr) (l : List Fil) (c : Nat) (hx : a.eval x = .slice A l.length c) (hF : Fils w A l)
    (hsz : xs.length + l.length ≤ 1000000) (hbase : base ≤ w.heap.size)
    (h : ∀ v' w', OwnF base w' v' (xs ++ l) → w.grownBy w' v.ownBlock → wpList Tryd.prog ops Q rest (a.put o.dst v') w') : wpList Tryd.prog ops Q (o :: rest) a w := by
  refine wpList_plain hgd fun K hK => ?_
  obtain ⟨v', w', hr, h2, h3⟩ := run_append_fils base o.type w v xs hown A l c hF hsz hbase
  unfold Oper.wp execOp
  simp only [ho, resolve, invoke, builtin, Sem.run_bind, Sem.run_pure, Result.andThen_ok, List.map_toArray, List.map_cons, List.map_nil, hs, hx, hr]
  exact hK _ _ (h v' w' h2 h3)
theorem fils_one (w : World) (f : Fil) (hok : f.ok) : Fils (w.alloc (.cells #[.int .i64 f.id, .int .u32 (f.n : Nat)] 48)) (some ⟨w.heap.size, 0, none⟩) [f] := by
  refine .inr ⟨w.heap.size, 0, rfl, by simp, fun i hi => ?_⟩
  obtain rfl : i = 0 := by simpa using hi
  exact ⟨by simp, by simp, hok⟩
/-- A store into bytes of the call's own. -/
theorem Own.store {base g n c : Nat} {w : World} {l : List UInt8} (h : Own base w (.slice (some ⟨g, 0, none⟩) n c) l) (i : Nat) (_hi : i < l.length) (x : UInt8) : Own base (w.setCell ⟨g, i, none⟩ (.int .u8 (x.toNat : Nat))) (.slice (some ⟨g, 0, none⟩) n c) (l.set i x) := by
  rcases h with ⟨h1, ⟨h2, _⟩ | ⟨g1, cap, cur, h2, h3, h4, h5, h6, h7, h8⟩⟩
  · cases h2
  · injection h2 with e1 e2 e3
    injection e1 with e1
    injection e1 with e1
    subst e1; subst e3
    obtain ⟨L, hL⟩ : ∃ L : List Value, L.toArray = cur := ⟨cur.toList, Array.toArray_toList⟩
    subst hL
    refine ⟨by simp, .inr ⟨g, c, (L.set i (.int .u8 (x.toNat : Nat))).toArray, by rw [e2]; simp, h3, heap_set h4 i _, by simpa using h5, h6, by simpa using h7, ?_⟩⟩
    simp only [Nat.mul_one, List.length_set] at h8 ⊢
    rw [List.map_set, ← h8, List.take_set]
end Go.Proofs.YtaggkcgeddoogaaDoor
