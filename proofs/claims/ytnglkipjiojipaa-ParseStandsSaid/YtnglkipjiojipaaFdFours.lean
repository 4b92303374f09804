/- The finder's list of places with the same four bytes before. -/
import Derived.Test.YtnglkipjiojipaaFdKeys
import Derived.Test.YtnglkipjiojipaaFdMem
import Derived.Maps.OwnOps
namespace Go.Proofs.Ytnglkipjiojipaa
open Go.RowKit Go.Maps

theorem heap_set {w : World} {g : Nat} {L : List Value} {t : TypeId} (h : w.heap[g]? = some (.cells L.toArray t (0, 0))) (i : Nat) (v : Value) : (w.setCell ⟨g, i, none⟩ v).heap[g]? = some (.cells (L.set i v).toArray t (0, 0)) := by
  unfold World.setCell
  simp [Array.getElem?_modify, h]
theorem heap_setCell_other (w : World) (a : Addr) (v : Value) (i : Nat) (h : i ≠ a.block) : (w.setCell a v).heap[i]? = w.heap[i]? := RowKit.Below.heap_setCell _ _ _ _ h
theorem heap_of_full32 {w : World} {base n : Nat} {t : TypeId} {g : Nat} {xs : List Value} (h : w.ownsRow base t 1 (.slice (some ⟨g, 0, none⟩) n n) n xs) : w.heap[g]? = some (.cells xs.toArray t (0, 0)) := by
  obtain ⟨hl, ⟨h, _⟩ | ⟨g', cap, cur, e, _, hg, _, _, hsz, ht⟩⟩ := h
  · cases h
  · injection e with e1 _ e3
    injection e1 with e1
    injection e1 with e1
    subst e1; subst e3
    rw [Nat.mul_one] at hl hsz ht
    have : cur.toList = xs := by rw [← ht, List.take_of_length_le (by simp; omega)]
    rw [hg, ← this]
theorem madeI32 (n : Nat) : (madeCells (Value.int .i32 0).cells (n * 1)).toList = List.replicate n (Value.int .i32 0) := by
  rw [Nat.mul_one, show (Value.int .i32 0).cells = #[Value.int .i32 0] from rfl, toList_madeCells_one]
theorem infoI32 : (Try.prog.info? 21).map (fun i => (i.zero, i.size, i.bytes)) = some (some (.int .i32 0), 1, 4) := by kernel_rfl
theorem wpList_make_i32 {ops : Array Oper} {rest : List Oper} {o : Oper} {a : Act} {Q : Exit → Act → World → Prop} (hgd : o.guard = none) (x y : Operand) (ho : o.op = .makeSlice 44 x y)
    (n : Nat) (w : World) (hx : a.eval x = .int .i64 (n : Nat)) (hy : a.eval y = .int .i64 (n : Nat)) (hn : n ≤ 1000000)
    (h : ∀ w', w'.heap[w.heap.size]? = some (.cells (List.replicate n (Value.int .i32 0)).toArray 21 (0, 0)) → w.grownBy w' none → wpList Try.prog ops Q rest (a.put o.dst (.slice (some ⟨w.heap.size, 0, none⟩) n n)) w') : wpList Try.prog ops Q (o :: rest) a w := by
  refine wpList_plain hgd fun K hK => ?_
  obtain ⟨i, hi, hz0, hz1, hz2⟩ := info_parts infoI32
  obtain ⟨w', hr, h1, h2⟩ := run_make_full (P := Try.prog) w w.heap.size 44 21 i (.int .i32 0) 1 Try.underlying44 hi hz0 hz1 .i64 .i64 n (by rw [hz2]; omega) (by unfold maxLen; omega) (Nat.le_refl _)
  rw [madeI32] at h1
  unfold Oper.wp execOp
  simp only [ho, hx, hy, Sem.run_bind, Sem.run_pure, Result.andThen_ok, hr]
  exact hK _ _ (h w' (heap_of_full32 h1) h2)
/-- The last place before i with the same four bytes; below 0: none. -/
def four (d : List UInt8) (i : Nat) : UInt8 × UInt8 × UInt8 × UInt8 := (d.getD i 0, d.getD (i + 1) 0, d.getD (i + 2) 0, d.getD (i + 3) 0)
/-- The last place below n where four bytes x stand. -/
def lastAt (d : List UInt8) (x : UInt8 × UInt8 × UInt8 × UInt8) : Nat → Int
  | 0 => -1
  | n + 1 => if four d n = x then (n : Int) else lastAt d x n
theorem lastAt_bounds (d : List UInt8) (x : UInt8 × UInt8 × UInt8 × UInt8) : ∀ n, -1 ≤ lastAt d x n ∧ lastAt d x n < (n : Int) ∨ n = 0 ∧ lastAt d x n = -1
  | 0 => .inr ⟨rfl, rfl⟩
  | n + 1 => by
    unfold lastAt
    split
    · left; omega
    · rcases lastAt_bounds d x n with h | ⟨h, e⟩
      · left; omega
      · left; rw [e]; omega
def prevs (d : List UInt8) (n : Nat) : List Value := (List.range n).map fun i => Value.int .i32 (lastAt d (four d i) i)
/-- The map of the last places. -/
def LastAt (w : World) (b : Nat) (d : List UInt8) (n : Nat) : Prop :=
  ∃ D : DataW Unit, w.ownsMap Try.prog 63 (plainElem Try.prog 21) b n D ∧
    ∀ x : UInt8 × UInt8 × UInt8 × UInt8, (Maps.has D (lit4 x.1 x.2.1 x.2.2.1 x.2.2.2) = true ↔ 0 ≤ lastAt d x n) ∧ (0 ≤ lastAt d x n → D.atKey (lit4 x.1 x.2.1 x.2.2.1 x.2.2.2) (.lit (.int .i32 0)) = .lit (.int .i32 (lastAt d x n)))
theorem LastAt.keep {w w' : World} {b n : Nat} {d : List UInt8} (h : LastAt w b d n) (hb : w'.heap[b]? = w.heap[b]?) : LastAt w' b d n := by
  obtain ⟨D, ⟨es, clock, h1, r⟩, h2⟩ := h
  exact ⟨D, ⟨es, clock, hb.trans h1, r⟩, h2⟩
theorem LastAt.lt {w : World} {b n : Nat} {d : List UInt8} (h : LastAt w b d n) : b < w.heap.size := by
  obtain ⟨D, h1, _⟩ := h
  exact h1.lt
theorem LastAt.made (w : World) (d : List UInt8) : LastAt (w.alloc (.map #[] 0)) w.heap.size d 0 :=
  ⟨_, World.ownsMap_made w Try.prog _ _, fun x => ⟨by simp [Maps.has, lastAt], fun h => by simp [lastAt] at h⟩⟩
noncomputable abbrev litOf (x : UInt8 × UInt8 × UInt8 × UInt8) : Lit := lit4 x.1 x.2.1 x.2.2.1 x.2.2.2
abbrev keyOf4 (x : UInt8 × UInt8 × UInt8 × UInt8) : Value := fourV x.1 x.2.1 x.2.2.1 x.2.2.2
theorem litOf_inj {x y : UInt8 × UInt8 × UInt8 × UInt8} (h : litOf x = litOf y) : x = y := by
  obtain ⟨h1, h2, h3, h4⟩ := lit4_inj h
  obtain ⟨a, b, c, d⟩ := x
  obtain ⟨a', b', c', d'⟩ := y
  simp_all
theorem zeroI32 (w : World) : (zeroValue 21).run Try.prog w = .ok (.int .i32 0) w := by
  first | rfl | simp [zeroValue]
theorem wf32 {z : Int} (h0 : -1 ≤ z) (h1 : z ≤ 1000000) : (Lit.int .i32 z).wf = true := by
  have e1 : IntKind.i32.min = -2147483648 := rfl
  have e2 : IntKind.i32.max = 2147483647 := rfl
  simp [Lit.wf, e1, e2]; omega
/-- What the look-up gives. -/
def seen (d : List UInt8) (x : UInt8 × UInt8 × UInt8 × UInt8) (n : Nat) : Bool := decide (0 ≤ lastAt d x n)
theorem LastAt.look {w : World} {b n : Nat} {d : List UInt8} (h : LastAt w b d n) (x : UInt8 × UInt8 × UInt8 × UInt8) : ∃ c : Int, (Instr.lookup 62 (.map (some b)) (keyOf4 x) true).run Try.prog w = .ok (.tuple #[.int .i32 c, .bool (seen d x n)]) w ∧ (seen d x n = true → c = lastAt d x n) := by
  obtain ⟨D, h1, h2⟩ := h
  obtain ⟨v, ps, hr, hv⟩ := h1.look_ok keyed4 Try.underlying62 (zeroI32 w) (plainElem_int (H := Unit) Try.underlying21 (wf32 (by omega) (by omega))) (lit4_spec x.1 x.2.1 x.2.2.1 x.2.2.2)
  obtain ⟨c, rfl, hc, _⟩ := plainElem_int_inv Try.underlying21 hv
  have e : Maps.has D (lit4 x.1 x.2.1 x.2.2.1 x.2.2.2) = seen d x n := by
    rw [Bool.eq_iff_iff, (h2 x).1]; simp [seen]
  refine ⟨c, by rw [hr, e], fun hs => ?_⟩
  have hs : 0 ≤ lastAt d x n := by simpa [seen] using hs
  have e2 := (h2 x).2 hs
  have e3 := congrArg Prod.fst hc
  simp only at e3
  rw [e2] at e3
  injection e3 with e3
  injection e3 with _ e3
  exact e3.symm
theorem LastAt.put {w : World} {b n : Nat} {d : List UInt8} (h : LastAt w b d n) (hn : n ≤ 100000) : ∃ w', (Instr.mapUpdate 62 (.map (some b)) (keyOf4 (four d n)) (.int .i32 (n : Nat))).run Try.prog w = .ok () w' ∧ LastAt w' b d (n + 1) ∧ w.mapTurned w' b := by
  obtain ⟨D, h1, h2⟩ := h
  obtain ⟨w', hr, ho, ht⟩ := h1.store keyed4 Try.underlying62 (by unfold maxLen; omega) (lit4_spec (four d n).1 (four d n).2.1 (four d n).2.2.1 (four d n).2.2.2) (plainElem_int (H := Unit) Try.underlying21 (a := (n : Nat)) (wf32 (by omega) (by omega)))
  have hk := keyed4.key (lit4_spec (four d n).1 (four d n).2.1 (four d n).2.2.1 (four d n).2.2.2)
  refine ⟨w', hr, ⟨_, ho, fun x => ?_⟩, ht⟩
  by_cases hx : four d n = x
  · subst hx
    rw [has_put_same h1.isMap hk, atKey_put_same h1.isMap hk]
    simp [lastAt]
  · have hne : litOf x ≠ litOf (four d n) := fun e => hx (litOf_inj e).symm
    have e : lastAt d x (n + 1) = lastAt d x n := by rw [lastAt, if_neg hx]
    rw [e, has_put_other hne, atKey_put_other hne]
    exact h2 x
theorem prevs_len (d : List UInt8) (k : Nat) : (prevs d k).length = k := by simp [prevs]
theorem prevs_set (d : List UInt8) (n k : Nat) (hk : k < n) (z : Int) (hz : z = lastAt d (four d k) k) : ((prevs d k) ++ List.replicate (n - k) (Value.int .i32 0)).set k (.int .i32 z) = prevs d (k + 1) ++ List.replicate (n - (k + 1)) (Value.int .i32 0) := by
  have e : n - k = (n - (k + 1)) + 1 := by omega
  rw [e, List.replicate_succ, List.set_append_right _ _ (by rw [prevs_len]; exact Nat.le_refl _), prevs_len, Nat.sub_self, List.set_cons_zero, hz]
  have e2 : prevs d (k + 1) = prevs d k ++ [.int .i32 (lastAt d (four d k) k)] := by simp [prevs, List.range_succ]
  rw [e2, List.append_assoc]
  rfl
end Go.Proofs.Ytnglkipjiojipaa
