/- Symbols in memory; what the parser yields. -/
import Derived.Test.YtnglkipjiojipaaPaChoose
import Derived.Maps.AppendAt
namespace Go.Proofs.Ytnglkipjiojipaa
open Go.RowKit

abbrev R4 := Int × Int × Int × Int
abbrev R4.val (r : R4) : Value := R4V r.1 r.2.1 r.2.2.1 r.2.2.2
def afterS (s : Sy) (r : R4) : R4 :=
  if s.k = 0 then r
  else if s.k = 1 then ((s.d : Int), r.1, r.2.1, r.2.2.1)
  else match s.r with
    | 0 => r
    | 1 => (r.2.1, r.1, r.2.2.1, r.2.2.2)
    | 2 => (r.2.2.1, r.1, r.2.1, r.2.2.2)
    | _ => (r.2.2.2, r.1, r.2.1, r.2.2.1)
theorem after_any (s : Sy) (hk : s.k ≤ 2) (hr : s.r ≤ 3) (r : R4) (w : World) : Calls Try.prog 20 #[r.val, s.val] w (AfterDone (afterS s r).1 (afterS s r).2.1 (afterS s r).2.2.1 (afterS s r).2.2.2 w) := by
  obtain ⟨k, b, l, d, q⟩ := s
  obtain ⟨r0, r1, r2, r3⟩ := r
  simp only at hk hr
  rcases (by omega : k = 0 ∨ k = 1 ∨ k = 2) with rfl | rfl | rfl
  · exact after_lit r0 r1 r2 r3 b _ _ _ w
  · exact after_match r0 r1 r2 r3 b _ _ _ w
  · rcases (by omega : q = 0 ∨ q = 1 ∨ q = 2 ∨ q = 3) with rfl | rfl | rfl | rfl
    · exact after_rep0 r0 r1 r2 r3 b _ _ w
    · exact after_rep1 r0 r1 r2 r3 b _ _ w
    · exact after_rep2 r0 r1 r2 r3 b _ _ w
    · exact after_rep3 r0 r1 r2 r3 b _ _ w
theorem firstTo_lt {g : Nat → Nat} : ∀ n, 0 < n → (firstTo g n).2 < n
  | n + 1, _ => by
    unfold firstTo
    split
    · exact Nat.lt_succ_self _
    · rcases Nat.eq_zero_or_pos n with rfl | h
      · exact Nat.lt_succ_self _
      · have := firstTo_lt (g := g) n h; omega
theorem chooseS_k (D : List UInt8) (dict nice : Int) (p : Nat) (left a b c d : Int) : (chooseS D dict nice p left a b c d).k ≤ 2 ∧ (chooseS D dict nice p left a b c d).r ≤ 3 := by
  have h : (bestRep D dict (p : Int) left a b c d).2 < 4 := firstTo_lt 4 (by decide)
  unfold chooseS
  simp only
  split
  · exact ⟨Nat.le_refl 2, by show (bestRep D dict (p : Int) left a b c d).2 ≤ 3; omega⟩
  · split
    · exact ⟨(by decide : 1 ≤ 2), Nat.zero_le 3⟩
    · split
      · exact ⟨Nat.le_refl 2, Nat.zero_le 3⟩
      · exact ⟨Nat.zero_le 2, Nat.zero_le 3⟩
theorem bestV_le (D : List UInt8) (dict nice place most : Int) : (bestV D dict nice place most).1 ≤ D.length := by
  unfold bestV
  split
  · rename_i h
    unfold bestOf
    split
    · exact Nat.zero_le _
    · rcases (bestTo_is (fun k => eqLen D place.toNat (place.toNat - k) (lim D place.toNat (min nice most))) (min (place.toNat : Int) dict).toNat).at_ with ⟨e, _⟩ | ⟨_, _, e, _⟩
      · rw [e]; exact Nat.zero_le _
      · rw [← e]
        have h1 := eqLen_le D place.toNat (place.toNat - (bestTo (fun k => eqLen D place.toNat (place.toNat - k) (lim D place.toNat (min nice most))) (min (place.toNat : Int) dict).toNat).2) (lim D place.toNat (min nice most))
        have h2 : lim D place.toNat (min nice most) ≤ D.length := by unfold lim; omega
        exact Nat.le_trans h1 h2
  · exact Nat.zero_le _
theorem chooseS_l (D : List UInt8) (dict nice : Int) (p : Nat) (left a b c d : Int) : (chooseS D dict nice p left a b c d).l ≤ 273 + D.length := by
  have h1 := (bestRep_le D dict (p : Int) left a b c d).1
  have h2 := bestV_le D dict nice (p : Int) left
  unfold chooseS
  simp only
  split
  · show (bestRep D dict (p : Int) left a b c d).1 ≤ _; omega
  · split
    · show (bestV D dict nice (p : Int) left).1 ≤ _; omega
    · split
      · show 1 ≤ _; omega
      · exact Nat.zero_le _
/-- The next symbol, behind the repeats. -/
def nextS (D : List UInt8) (dict nice : Int) (tt p : Nat) (r : R4) : Sy := chooseS D dict nice p ((tt : Int) - (p : Int)) r.1 r.2.1 r.2.2.1 r.2.2.2
def symsOf (D : List UInt8) (dict nice : Int) (tt : Nat) : Nat → Nat → R4 → List Sy × R4
  | 0, _, r => ([], r)
  | f + 1, p, r => if p < tt then
      (nextS D dict nice tt p r :: (symsOf D dict nice tt f (p + max (nextS D dict nice tt p r).l 1) (afterS (nextS D dict nice tt p r) r)).1, (symsOf D dict nice tt f (p + max (nextS D dict nice tt p r).l 1) (afterS (nextS D dict nice tt p r) r)).2)
    else ([], r)
theorem symsOf_more (D : List UInt8) (dict nice : Int) (tt : Nat) : ∀ (f g p : Nat) (r : R4), tt - p ≤ f → tt - p ≤ g → symsOf D dict nice tt f p r = symsOf D dict nice tt g p r
  | 0, 0, p, r, _, _ => rfl
  | 0, g + 1, p, r, h, _ => by
    unfold symsOf
    rw [if_neg (by omega)]
  | f + 1, 0, p, r, _, h => by
    unfold symsOf
    rw [if_neg (by omega)]
  | f + 1, g + 1, p, r, h1, h2 => by
    unfold symsOf
    by_cases hp : p < tt
    · rw [if_pos hp, if_pos hp, symsOf_more D dict nice tt f g _ _ (by omega) (by omega)]
    · rw [if_neg hp, if_neg hp]
theorem symsOf_step {D : List UInt8} {dict nice : Int} {tt p : Nat} {r : R4} (hp : p < tt) : symsOf D dict nice tt (tt - p) p r =
    (nextS D dict nice tt p r :: (symsOf D dict nice tt (tt - (p + max (nextS D dict nice tt p r).l 1)) (p + max (nextS D dict nice tt p r).l 1) (afterS (nextS D dict nice tt p r) r)).1, (symsOf D dict nice tt (tt - (p + max (nextS D dict nice tt p r).l 1)) (p + max (nextS D dict nice tt p r).l 1) (afterS (nextS D dict nice tt p r) r)).2) := by
  obtain ⟨f, hf⟩ : ∃ f, tt - p = f + 1 := ⟨tt - p - 1, by omega⟩
  rw [hf]
  conv => lhs; unfold symsOf
  rw [if_pos hp, symsOf_more D dict nice tt f (tt - (p + max (nextS D dict nice tt p r).l 1)) _ _ (by omega) (by omega)]
theorem symsOf_end {D : List UInt8} {dict nice : Int} {tt p : Nat} {r : R4} (hp : ¬ p < tt) : symsOf D dict nice tt (tt - p) p r = ([], r) := by
  rw [show tt - p = 0 by omega]; rfl
def syCells (l : List Sy) : List Value := l.flatMap fun s => [Value.int .i64 (s.k : Nat), .int .u8 (s.b.toNat : Nat), .int .i64 (s.l : Nat), .int .i64 (s.d : Nat), .int .i64 (s.r : Nat)]
theorem syCells_length (l : List Sy) : (syCells l).length = l.length * 5 := by
  induction l with
  | nil => rfl
  | cons a l ih => simp only [syCells, List.flatMap_cons, List.length_append, List.length_cons, List.length_nil] at ih ⊢; omega
theorem syCells_append (l m : List Sy) : syCells (l ++ m) = syCells l ++ syCells m := by simp [syCells]
theorem syCells_get (l : List Sy) : ∀ i (h : i < l.length), (syCells l)[5 * i]? = some (.int .i64 (l[i].k : Nat)) ∧ (syCells l)[5 * i + 1]? = some (.int .u8 (l[i].b.toNat : Nat)) ∧ (syCells l)[5 * i + 2]? = some (.int .i64 (l[i].l : Nat)) ∧
    (syCells l)[5 * i + 3]? = some (.int .i64 (l[i].d : Nat)) ∧ (syCells l)[5 * i + 4]? = some (.int .i64 (l[i].r : Nat)) := by
  induction l with
  | nil => intro i h; simp at h
  | cons a l ih =>
    intro i h
    cases i with
    | zero => exact ⟨rfl, rfl, rfl, rfl, rfl⟩
    | succ i =>
      have := ih i (by simpa using h)
      rw [show 5 * (i + 1) = 5 * i + 1 + 1 + 1 + 1 + 1 by omega]
      exact this
/-- Symbols in memory of the call's own, that may be appended to. -/
def OwnS (base : Nat) (w : World) (v : Value) (l : List Sy) : Prop := w.ownsRow base 36 5 v l.length (syCells l)
theorem infoSy : (Try.prog.info? 36).map (fun i => (i.zero, i.size, i.bytes)) = some (some (.agg #[.int .i64 0, .int .u8 0, .int .i64 0, .int .i64 0, .int .i64 0]), 5, 40) := by kernel_rfl
theorem OwnS.nil (base : Nat) (w : World) : OwnS base w (.slice none 0 0) [] := World.ownsRow_nil w base _ 5
theorem OwnS.keep {base : Nat} {w w' : World} {v : Value} {l : List Sy} (h : OwnS base w v l) (hb : ∀ g, v.ownBlock = some g → w'.heap[g]? = w.heap[g]?) : OwnS base w' v l := by
  rcases h with ⟨h1, h2 | ⟨g, cap, cur, h2, h3, h4, h5⟩⟩
  · exact ⟨h1, .inl h2⟩
  · exact ⟨h1, .inr ⟨g, cap, cur, h2, h3, (hb g (by rw [h2]; rfl)).trans h4, h5⟩⟩
theorem OwnS.lt {base : Nat} {w : World} {v : Value} {l : List Sy} (h : OwnS base w v l) (g : Nat) (hg : v.ownBlock = some g) : base ≤ g ∧ g < w.heap.size := World.ownsRow.lt h g hg
theorem OwnS.weaken {base base' : Nat} {w : World} {v : Value} {l : List Sy} (h : OwnS base w v l) (hb : base' ≤ base) : OwnS base' w v l := by
  rcases h with ⟨h1, h2 | ⟨g, cap, cur, h2, h3, h4⟩⟩
  · exact ⟨h1, .inl h2⟩
  · exact ⟨h1, .inr ⟨g, cap, cur, h2, Nat.le_trans hb h3, h4⟩⟩
theorem OwnS.below {base : Nat} {w w' : World} {v : Value} {l : List Sy} (h : OwnS base w v l) (hb : Below w.heap.size w w') : OwnS base w' v l := h.keep fun g hg => hb.block g (h.lt g hg).2
theorem OwnS.set {base : Nat} {w : World} {v : Value} {l : List Sy} (h : OwnS base w v l) {p : Addr} (hp : p.block < base) (u : Value) : OwnS base (w.setCell p u) v l := h.keep fun g hg => heap_setCell_other _ _ _ _ (by have := (h.lt g hg).1; omega)
theorem OwnS.read {base : Nat} {w : World} {v : Value} {l : List Sy} (h : OwnS base w v l) (hl : 0 < l.length) :
    ∃ g cap, v = .slice (some ⟨g, 0, none⟩) l.length cap ∧ g < w.heap.size ∧ l.length ≤ cap ∧ cap ≤ 9223372036854775807 ∧ ∀ i (h : i < l.length), w.cell? ⟨g, 5 * i, none⟩ = some (.int .i64 (l[i].k : Nat)) ∧ w.cell? ⟨g, 5 * i + 1, none⟩ = some (.int .u8 (l[i].b.toNat : Nat)) ∧
      w.cell? ⟨g, 5 * i + 2, none⟩ = some (.int .i64 (l[i].l : Nat)) ∧ w.cell? ⟨g, 5 * i + 3, none⟩ = some (.int .i64 (l[i].d : Nat)) ∧ w.cell? ⟨g, 5 * i + 4, none⟩ = some (.int .i64 (l[i].r : Nat)) := by
  rcases h with ⟨h1, ⟨h2, h3⟩ | ⟨g, cap, cur, rfl, h3, h4, h5, h6, h7, h8⟩⟩
  · omega
  · refine ⟨g, cap, rfl, (Array.getElem?_eq_some_iff.1 h4).1, h5, by unfold maxLen at h6; exact h6, fun i hi => ?_⟩
    have hget := syCells_get l i hi
    have hc : ∀ j, j < l.length * 5 → w.cell? ⟨g, j, none⟩ = (syCells l)[j]? := fun j hj => by
      have e : cur[j]? = (syCells l)[j]? := by
        rw [← h8, List.getElem?_take_of_lt (by omega), Array.getElem?_toList]
      rw [← e, cell_of_row w g j _ _ _ h4]
    refine ⟨?_, ?_, ?_, ?_, ?_⟩
    · rw [hc _ (by omega)]; exact hget.1
    · rw [hc _ (by omega)]; exact hget.2.1
    · rw [hc _ (by omega)]; exact hget.2.2.1
    · rw [hc _ (by omega)]; exact hget.2.2.2.1
    · rw [hc _ (by omega)]; exact hget.2.2.2.2
set_option maxRecDepth 100000 in
theorem run_append_sy (ty : TypeId) (base : Nat) (w : World) (v : Value) (l : List Sy) (hown : OwnS base w v l) (hh c : Nat) (s : Sy)
    (hc : w.heap[hh]? = some (.cells (syCells [s]).toArray 36 (0, 0))) (hl : l.length ≤ 1000000) (hbase : base ≤ w.heap.size) :
    ∃ v' w', (Builtin.append_ #[28, 28] ty #[v, .slice (some ⟨hh, 0, none⟩) 1 c]).run Try.prog w = .ok v' w' ∧ OwnS base w' v' (l ++ [s]) ∧ w.grownBy w' v.ownBlock := by
  obtain ⟨i, hi, hz⟩ := Option.map_eq_some_iff.1 infoSy
  injection hz with hz0 hz; injection hz with hz1 hz2
  obtain ⟨v', w', hr, h2, h3, _⟩ := run_append_own (P := Try.prog) w base 28 ty 36 i _ 5 40 Try.underlying28 hi hz0 hz1 hz2 rfl (by decide)
    v l.length (syCells l) hown ⟨hh, 0, none⟩ 1 c (syCells [s]) (by rw [syCells_length]; rfl) (by
      intro j u hu
      have e : (⟨hh, 0, none⟩ : Addr).add j = ⟨hh, j, none⟩ := by unfold Addr.add; split <;> simp_all
      rw [e, cell_of_row w hh _ _ _ _ hc, List.getElem?_toArray, hu]) (by intro u hu; simp [syCells] at hu; rcases hu with rfl | rfl | rfl | rfl | rfl <;> rfl) (by unfold maxLen; omega) (by omega) hbase
  exact ⟨v', w', hr, by unfold OwnS; rw [syCells_append]; simpa using h2, h3⟩
theorem wpList_append_sy {ops : Array Oper} {rest : List Oper} {o : Oper} {a : Act} {Q : Exit → Act → World → Prop} (hgd : o.guard = none) (s x : Operand)
    (ho : o.op = .call { callee := .builtin .append, args := #[s, x], argTypes := #[28, 28] })
    (base : Nat) (w : World) (v : Value) (l : List Sy) (hs : a.eval s = v) (hown : OwnS base w v l) (hh c : Nat) (y : Sy) (hx : a.eval x = .slice (some ⟨hh, 0, none⟩) 1 c)
    (hc : w.heap[hh]? = some (.cells (syCells [y]).toArray 36 (0, 0))) (hl : l.length ≤ 1000000) (hbase : base ≤ w.heap.size)
    (h : ∀ v' w', OwnS base w' v' (l ++ [y]) → w.grownBy w' v.ownBlock → wpList Try.prog ops Q rest (a.put o.dst v') w') : wpList Try.prog ops Q (o :: rest) a w := by
  refine wpList_plain hgd fun K hK => ?_
  obtain ⟨v', w', hr, h2, h3⟩ := run_append_sy o.type base w v l hown hh c y hc hl hbase
  unfold Oper.wp execOp
  simp only [ho, resolve, invoke, builtin, Sem.run_bind, Sem.run_pure, Result.andThen_ok, List.map_toArray, List.map_cons, List.map_nil, hs, hx, hr]
  exact hK _ _ (h v' w' h2 h3)
end Go.Proofs.Ytnglkipjiojipaa
