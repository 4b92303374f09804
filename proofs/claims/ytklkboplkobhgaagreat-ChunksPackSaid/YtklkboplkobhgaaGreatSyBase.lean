/- Symbols and repeats, as values and in memory. -/
import Derived.Test.YtklkboplkobhgaaGreatSy0
import Derived.Laws.CopyOwn
import Derived.Deep.RegionLaw
import Derived.Deep.RegionHeld3
import Derived.Maps.AppendAt
namespace Go.Proofs.YtklkboplkobhgaaGreat
set_option maxRecDepth 100000
open Go.RowKit

abbrev R4V (a b c d : Int) : Value := .agg #[.int .i64 a, .int .i64 b, .int .i64 c, .int .i64 d]
abbrev SyV (k : Int) (b : UInt8) (l d r : Int) : Value := .agg #[.int .i64 k, .int .u8 (b.toNat : Nat), .int .i64 l, .int .i64 d, .int .i64 r]
theorem src_cells {W : World} {b : Nat} {L cs : List Value} {t : TypeId} (h : W.heap[b]? = some (.cells L.toArray t (0, 0))) (hcs : ∀ j, j < cs.length → cs[j]? = L[j]?) : ∀ j v, cs[j]? = some v → W.drew.cell? ((⟨b, 0, none⟩ : Addr).add j) = some v := by
  intro j v hj
  have hjl : j < cs.length := (List.getElem?_eq_some_iff.1 hj).1
  have e : ((⟨b, 0, none⟩ : Addr).add j) = ⟨b, j, none⟩ := by unfold Addr.add; split <;> simp_all
  have h' : W.drew.heap[b]? = some (.cells L.toArray t (0, 0)) := h
  rw [e, cell_of_row W.drew b _ _ _ _ h', List.getElem?_toArray, ← hcs j hjl, hj]
set_option maxRecDepth 100000 in
theorem len4 : Tryz.prog.arrayLen 64 = 4 := by kernel_rfl
set_option maxRecDepth 100000 in
theorem und4 : Tryz.prog.underlying 64 = some (.array (Tryz.prog.arrayLen 64) (Tryz.prog.elem 64)) := by kernel_rfl
theorem cut4lh (g n : Nat) (h : n ≤ 3) (w : World) : (Instr.sliceAt 64 (.pointer (some ⟨g, 0, none⟩)) (some (.int .i64 1)) (some (.int .i64 (n + 1 : Nat))) none).run Tryz.prog w = .ok (.slice (some ⟨g, 1, none⟩) n 3) w := by
  have hs : (sizeOf (Tryz.prog.elem 64)).run Tryz.prog w = .ok 1 w := by kernel_rfl
  rw [run_sliceAt_array_lh w 64 ⟨g, 0, none⟩ und4 .i64 .i64 1 (n + 1 : Nat) (by decide) (by omega) (by rw [len4]; omega), hs, len4]
  simp only [Result.andThen, slicedAt, Int.toNat_natCast, Nat.mul_one]
  rw [if_neg (by decide), show (1 : Int).toNat = 1 from rfl, Addr.add_mid, Nat.zero_add, Nat.add_sub_cancel]
theorem cut4h (g n : Nat) (h : n ≤ 4) (w : World) : (Instr.sliceAt 64 (.pointer (some ⟨g, 0, none⟩)) none (some (.int .i64 (n : Nat))) none).run Tryz.prog w = .ok (.slice (some ⟨g, 0, none⟩) n 4) w := by
  have hs : (sizeOf (Tryz.prog.elem 64)).run Tryz.prog w = .ok 1 w := by kernel_rfl
  rw [run_sliceAt_array_h w 64 ⟨g, 0, none⟩ und4 .i64 (n : Nat) (by omega) (by rw [len4]; omega), hs, len4]
  simp only [Result.andThen, slicedAt, Int.toNat_natCast, Nat.mul_one, Nat.sub_zero]
  rw [if_neg (by decide)]
  simp [Addr.add]
def r4 (a b c d : Int) : Nat → Int
  | 0 => a
  | 1 => b
  | 2 => c
  | _ => d
set_option maxRecDepth 100000 in
theorem ix4_0 (a b c d : Int) (w : World) : (Instr.index 64 (.agg #[.int .i64 a, .int .i64 b, .int .i64 c, .int .i64 d]) (.int .i64 0)).run Tryz.prog w = .ok (.int .i64 a) w := by
  first | rfl | kernel_rfl | (simp [Instr.index, run_underlying Tryz.underlying64, asIntOf, go_sem])
set_option maxRecDepth 100000 in
theorem ix4_1 (a b c d : Int) (w : World) : (Instr.index 64 (.agg #[.int .i64 a, .int .i64 b, .int .i64 c, .int .i64 d]) (.int .i64 1)).run Tryz.prog w = .ok (.int .i64 b) w := by
  first | rfl | kernel_rfl | (simp [Instr.index, run_underlying Tryz.underlying64, asIntOf, go_sem])
set_option maxRecDepth 100000 in
theorem ix4_2 (a b c d : Int) (w : World) : (Instr.index 64 (.agg #[.int .i64 a, .int .i64 b, .int .i64 c, .int .i64 d]) (.int .i64 2)).run Tryz.prog w = .ok (.int .i64 c) w := by
  first | rfl | kernel_rfl | (simp [Instr.index, run_underlying Tryz.underlying64, asIntOf, go_sem])
set_option maxRecDepth 100000 in
theorem ix4_3 (a b c d : Int) (w : World) : (Instr.index 64 (.agg #[.int .i64 a, .int .i64 b, .int .i64 c, .int .i64 d]) (.int .i64 3)).run Tryz.prog w = .ok (.int .i64 d) w := by
  first | rfl | kernel_rfl | (simp [Instr.index, run_underlying Tryz.underlying64, asIntOf, go_sem])
structure Sy where
  k : Nat
  b : UInt8
  l : Nat
  d : Nat
  r : Nat
deriving DecidableEq
abbrev Sy.val (s : Sy) : Value := SyV (s.k : Nat) s.b (s.l : Nat) (s.d : Nat) (s.r : Nat)
abbrev R4 := Int × Int × Int × Int
abbrev R4.val (r : R4) : Value := R4V r.1 r.2.1 r.2.2.1 r.2.2.2
def afterS (s : Sy) (r : R4) : R4 :=
  if s.k = 0 then r
  else if s.k = 1 then ((s.d : Int), r.1, r.2.1, r.2.2.1)
  else match s.r with
    | 0 => r
    | 1 => (r.2.1, r.1, r.2.2.1, r.2.2.2)
    | 2 => (r.2.2.1, r.1, r.2.1, r.2.2.2)
    | _ => (r.2.2.2, r.1, r.2.1, r.2.2.1)
def syCells (l : List Sy) : List Value := l.flatMap fun s => [Value.int .i64 (s.k : Nat), .int .u8 (s.b.toNat : Nat), .int .i64 (s.l : Nat), .int .i64 (s.d : Nat), .int .i64 (s.r : Nat)]
theorem syCells_length (l : List Sy) : (syCells l).length = l.length * 5 := by
  induction l with
  | nil => rfl
  | cons a l ih => simp only [syCells, List.flatMap_cons, List.length_append, List.length_cons, List.length_nil] at ih ⊢; omega
theorem syCells_append (l m : List Sy) : syCells (l ++ m) = syCells l ++ syCells m := by simp [syCells]
theorem syCells_get (l : List Sy) : ∀ i (h : i < l.length), (syCells l)[5 * i]? = some (.int .i64 (l[i].k : Nat)) ∧ (syCells l)[5 * i + 1]? = some (.int .u8 (l[i].b.toNat : Nat)) ∧ (syCells l)[5 * i + 2]? = some (.int .i64 (l[i].l : Nat)) ∧
    (syCells l)[5 * i + 3]? = some (.int .i64 (l[i].d : Nat)) ∧ (syCells l)[5 * i + 4]? = some (.int .i64 (l[i].r : Nat)) := by
  induction l with
  | nil => intro i h; simp at h
  | cons a l ih =>
    intro i h
    cases i with
    | zero => exact ⟨rfl, rfl, rfl, rfl, rfl⟩
    | succ i =>
      have := ih i (by simpa using h)
      rw [show 5 * (i + 1) = 5 * i + 1 + 1 + 1 + 1 + 1 by omega]
      exact this
/-- Symbols in memory of the call's own, that may be appended to. -/
def OwnS (base : Nat) (w : World) (v : Value) (l : List Sy) : Prop := w.ownsRow base 96 5 v l.length (syCells l)
set_option maxRecDepth 100000 in
theorem infoSy : (Tryz.prog.info? 96).map (fun i => (i.zero, i.size, i.bytes)) = some (some (.agg #[.int .i64 0, .int .u8 0, .int .i64 0, .int .i64 0, .int .i64 0]), 5, 40) := by kernel_rfl
theorem OwnS.nil (base : Nat) (w : World) : OwnS base w (.slice none 0 0) [] := World.ownsRow_nil w base _ 5
theorem OwnS.keep {base : Nat} {w w' : World} {v : Value} {l : List Sy} (h : OwnS base w v l) (hb : ∀ g, v.ownBlock = some g → w'.heap[g]? = w.heap[g]?) : OwnS base w' v l := by
  rcases h with ⟨h1, h2 | ⟨g, cap, cur, h2, h3, h4, h5⟩⟩
  · exact ⟨h1, .inl h2⟩
  · exact ⟨h1, .inr ⟨g, cap, cur, h2, h3, (hb g (by rw [h2]; rfl)).trans h4, h5⟩⟩
theorem OwnS.lt {base : Nat} {w : World} {v : Value} {l : List Sy} (h : OwnS base w v l) (g : Nat) (hg : v.ownBlock = some g) : base ≤ g ∧ g < w.heap.size := World.ownsRow.lt h g hg
theorem OwnS.weaken {base base' : Nat} {w : World} {v : Value} {l : List Sy} (h : OwnS base w v l) (hb : base' ≤ base) : OwnS base' w v l := by
  rcases h with ⟨h1, h2 | ⟨g, cap, cur, h2, h3, h4⟩⟩
  · exact ⟨h1, .inl h2⟩
  · exact ⟨h1, .inr ⟨g, cap, cur, h2, Nat.le_trans hb h3, h4⟩⟩
theorem OwnS.below {base : Nat} {w w' : World} {v : Value} {l : List Sy} (h : OwnS base w v l) (hb : Below w.heap.size w w') : OwnS base w' v l := h.keep fun g hg => hb.block g (h.lt g hg).2
theorem OwnS.set {base : Nat} {w : World} {v : Value} {l : List Sy} (h : OwnS base w v l) {p : Addr} (hp : p.block < base) (u : Value) : OwnS base (w.setCell p u) v l := h.keep fun g hg => heap_setCell_other _ _ _ _ (by have := (h.lt g hg).1; omega)
theorem OwnS.read {base : Nat} {w : World} {v : Value} {l : List Sy} (h : OwnS base w v l) (hl : 0 < l.length) :
    ∃ g cap, v = .slice (some ⟨g, 0, none⟩) l.length cap ∧ g < w.heap.size ∧ l.length ≤ cap ∧ cap ≤ 9223372036854775807 ∧ ∀ i (h : i < l.length), w.cell? ⟨g, 5 * i, none⟩ = some (.int .i64 (l[i].k : Nat)) ∧ w.cell? ⟨g, 5 * i + 1, none⟩ = some (.int .u8 (l[i].b.toNat : Nat)) ∧
      w.cell? ⟨g, 5 * i + 2, none⟩ = some (.int .i64 (l[i].l : Nat)) ∧ w.cell? ⟨g, 5 * i + 3, none⟩ = some (.int .i64 (l[i].d : Nat)) ∧ w.cell? ⟨g, 5 * i + 4, none⟩ = some (.int .i64 (l[i].r : Nat)) := by
  rcases h with ⟨h1, ⟨h2, h3⟩ | ⟨g, cap, cur, rfl, h3, h4, h5, h6, h7, h8⟩⟩
  · omega
  · refine ⟨g, cap, rfl, (Array.getElem?_eq_some_iff.1 h4).1, h5, by unfold maxLen at h6; exact h6, fun i hi => ?_⟩
    have hget := syCells_get l i hi
    have hc : ∀ j, j < l.length * 5 → w.cell? ⟨g, j, none⟩ = (syCells l)[j]? := fun j hj => by
      have e : cur[j]? = (syCells l)[j]? := by
        rw [← h8, List.getElem?_take_of_lt (by omega), Array.getElem?_toList]
      rw [← e, cell_of_row w g j _ _ _ h4]
    refine ⟨?_, ?_, ?_, ?_, ?_⟩
    · rw [hc _ (by omega)]; exact hget.1
    · rw [hc _ (by omega)]; exact hget.2.1
    · rw [hc _ (by omega)]; exact hget.2.2.1
    · rw [hc _ (by omega)]; exact hget.2.2.2.1
    · rw [hc _ (by omega)]; exact hget.2.2.2.2
set_option maxRecDepth 100000 in
theorem run_append_sy (ty : TypeId) (base : Nat) (w : World) (v : Value) (l : List Sy) (hown : OwnS base w v l) (hh c : Nat) (s : Sy)
    (hc : w.heap[hh]? = some (.cells (syCells [s]).toArray 96 (0, 0))) (hl : l.length ≤ 1000000) (hbase : base ≤ w.heap.size) :
    ∃ v' w', (Builtin.append_ #[89, 89] ty #[v, .slice (some ⟨hh, 0, none⟩) 1 c]).run Tryz.prog w = .ok v' w' ∧ OwnS base w' v' (l ++ [s]) ∧ w.grownBy w' v.ownBlock := by
  obtain ⟨i, hi, hz⟩ := Option.map_eq_some_iff.1 infoSy
  injection hz with hz0 hz; injection hz with hz1 hz2
  obtain ⟨v', w', hr, h2, h3, _⟩ := run_append_own (P := Tryz.prog) w base 89 ty 96 i _ 5 40 Tryz.underlying89 hi hz0 hz1 hz2 rfl (by decide)
    v l.length (syCells l) hown ⟨hh, 0, none⟩ 1 c (syCells [s]) (by rw [syCells_length]; rfl) (by
      intro j u hu
      have e : (⟨hh, 0, none⟩ : Addr).add j = ⟨hh, j, none⟩ := by unfold Addr.add; split <;> simp_all
      rw [e, cell_of_row w hh _ _ _ _ hc, List.getElem?_toArray, hu]) (by intro u hu; simp [syCells] at hu; rcases hu with rfl | rfl | rfl | rfl | rfl <;> rfl) (by unfold maxLen; omega) (by omega) hbase
  exact ⟨v', w', hr, by unfold OwnS; rw [syCells_append]; simpa using h2, h3⟩
theorem wpList_append_sy {ops : Array Oper} {rest : List Oper} {o : Oper} {a : Act} {Q : Exit → Act → World → Prop} (hgd : o.guard = none) (s x : Operand)
    (ho : o.op = .call { callee := .builtin .append, args := #[s, x], argTypes := #[89, 89] })
    (base : Nat) (w : World) (v : Value) (l : List Sy) (hs : a.eval s = v) (hown : OwnS base w v l) (hh c : Nat) (y : Sy) (hx : a.eval x = .slice (some ⟨hh, 0, none⟩) 1 c)
    (hc : w.heap[hh]? = some (.cells (syCells [y]).toArray 96 (0, 0))) (hl : l.length ≤ 1000000) (hbase : base ≤ w.heap.size)
    (h : ∀ v' w', OwnS base w' v' (l ++ [y]) → w.grownBy w' v.ownBlock → wpList Tryz.prog ops Q rest (a.put o.dst v') w') : wpList Tryz.prog ops Q (o :: rest) a w := by
  refine wpList_plain hgd fun K hK => ?_
  obtain ⟨v', w', hr, h2, h3⟩ := run_append_sy o.type base w v l hown hh c y hc hl hbase
  unfold Oper.wp execOp
  simp only [ho, resolve, invoke, builtin, Sem.run_bind, Sem.run_pure, Result.andThen_ok, List.map_toArray, List.map_cons, List.map_nil, hs, hx, hr]
  exact hK _ _ (h v' w' h2 h3)
theorem OwnS.form {base : Nat} {w : World} {v : Value} {l : List Sy} (h : OwnS base w v l) :
    ∃ A cap, v = .slice A l.length cap ∧ l.length ≤ cap ∧ cap ≤ 9223372036854775807 ∧ ∀ i (h : i < l.length), ∃ g, A = some ⟨g, 0, none⟩ ∧ g < w.heap.size ∧ w.cell? ⟨g, 5 * i, none⟩ = some (.int .i64 (l[i].k : Nat)) ∧ w.cell? ⟨g, 5 * i + 1, none⟩ = some (.int .u8 (l[i].b.toNat : Nat)) ∧
      w.cell? ⟨g, 5 * i + 2, none⟩ = some (.int .i64 (l[i].l : Nat)) ∧ w.cell? ⟨g, 5 * i + 3, none⟩ = some (.int .i64 (l[i].d : Nat)) ∧ w.cell? ⟨g, 5 * i + 4, none⟩ = some (.int .i64 (l[i].r : Nat)) := by
  by_cases hl : 0 < l.length
  · obtain ⟨g, cap, rfl, hg, hc, hm, hat⟩ := h.read hl
    exact ⟨_, cap, rfl, hc, hm, fun i hi => ⟨g, rfl, hg, hat i hi⟩⟩
  · rcases h with ⟨_, ⟨rfl, h3⟩ | ⟨g, cap, cur, rfl, h3, h4, h5, h6, _⟩⟩
    · exact ⟨none, 0, by rw [h3], by omega, by decide, fun i hi => by omega⟩
    · exact ⟨_, cap, rfl, h5, by unfold maxLen at h6; exact h6, fun i hi => by omega⟩
end Go.Proofs.YtklkboplkobhgaaGreat
