/- Several texts in one: SyBase, MdCode, MdIo. -/
import Derived.Test.YtkckjjchfccdjaaSy0
import Derived.Laws.CopyOwn
import Derived.Deep.RegionLaw
import Derived.Deep.RegionHeld3
import Derived.Maps.AppendAt
import Derived.Test.YtkckjjchfccdjaaMg4
import Derived.Test.YtkckjjchfccdjaaMg5
/- Symbols and repeats, as values and in memory. -/
namespace Go.Proofs.Ytkckjjchfccdjaa
set_option maxRecDepth 100000
open Go.RowKit

abbrev R4V (a b c d : Int) : Value := .agg #[.int .i64 a, .int .i64 b, .int .i64 c, .int .i64 d]
abbrev SyV (k : Int) (b : UInt8) (l d r : Int) : Value := .agg #[.int .i64 k, .int .u8 (b.toNat : Nat), .int .i64 l, .int .i64 d, .int .i64 r]
theorem src_cells {W : World} {b : Nat} {L cs : List Value} {t : TypeId} (h : W.heap[b]? = some (.cells L.toArray t (0, 0))) (hcs : ∀ j, j < cs.length → cs[j]? = L[j]?) : ∀ j v, cs[j]? = some v → W.drew.cell? ((⟨b, 0, none⟩ : Addr).add j) = some v := by
  intro j v hj
  have hjl : j < cs.length := (List.getElem?_eq_some_iff.1 hj).1
  have e : ((⟨b, 0, none⟩ : Addr).add j) = ⟨b, j, none⟩ := by unfold Addr.add; split <;> simp_all
  have h' : W.drew.heap[b]? = some (.cells L.toArray t (0, 0)) := h
  rw [e, cell_of_row W.drew b _ _ _ _ h', List.getElem?_toArray, ← hcs j hjl, hj]
set_option maxRecDepth 100000 in
theorem len4 : Try.prog.arrayLen 103 = 4 := by kernel_rfl
set_option maxRecDepth 100000 in
theorem und4 : Try.prog.underlying 103 = some (.array (Try.prog.arrayLen 103) (Try.prog.elem 103)) := by kernel_rfl
theorem cut4lh (g n : Nat) (h : n ≤ 3) (w : World) : (Instr.sliceAt 103 (.pointer (some ⟨g, 0, none⟩)) (some (.int .i64 1)) (some (.int .i64 (n + 1 : Nat))) none).run Try.prog w = .ok (.slice (some ⟨g, 1, none⟩) n 3) w := by
  have hs : (sizeOf (Try.prog.elem 103)).run Try.prog w = .ok 1 w := by kernel_rfl
  rw [run_sliceAt_array_lh w 103 ⟨g, 0, none⟩ und4 .i64 .i64 1 (n + 1 : Nat) (by decide) (by omega) (by rw [len4]; omega), hs, len4]
  simp only [Result.andThen, slicedAt, Int.toNat_natCast, Nat.mul_one]
  rw [if_neg (by decide), show (1 : Int).toNat = 1 from rfl, Addr.add_mid, Nat.zero_add, Nat.add_sub_cancel]
theorem cut4h (g n : Nat) (h : n ≤ 4) (w : World) : (Instr.sliceAt 103 (.pointer (some ⟨g, 0, none⟩)) none (some (.int .i64 (n : Nat))) none).run Try.prog w = .ok (.slice (some ⟨g, 0, none⟩) n 4) w := by
  have hs : (sizeOf (Try.prog.elem 103)).run Try.prog w = .ok 1 w := by kernel_rfl
  rw [run_sliceAt_array_h w 103 ⟨g, 0, none⟩ und4 .i64 (n : Nat) (by omega) (by rw [len4]; omega), hs, len4]
  simp only [Result.andThen, slicedAt, Int.toNat_natCast, Nat.mul_one, Nat.sub_zero]
  rw [if_neg (by decide)]
  simp [Addr.add]
def r4 (a b c d : Int) : Nat → Int
  | 0 => a
  | 1 => b
  | 2 => c
  | _ => d
set_option maxRecDepth 100000 in
theorem ix4_0 (a b c d : Int) (w : World) : (Instr.index 103 (.agg #[.int .i64 a, .int .i64 b, .int .i64 c, .int .i64 d]) (.int .i64 0)).run Try.prog w = .ok (.int .i64 a) w := by
  first | rfl | kernel_rfl | (simp [Instr.index, run_underlying Try.underlying103, asIntOf, go_sem])
set_option maxRecDepth 100000 in
theorem ix4_1 (a b c d : Int) (w : World) : (Instr.index 103 (.agg #[.int .i64 a, .int .i64 b, .int .i64 c, .int .i64 d]) (.int .i64 1)).run Try.prog w = .ok (.int .i64 b) w := by
  first | rfl | kernel_rfl | (simp [Instr.index, run_underlying Try.underlying103, asIntOf, go_sem])
set_option maxRecDepth 100000 in
theorem ix4_2 (a b c d : Int) (w : World) : (Instr.index 103 (.agg #[.int .i64 a, .int .i64 b, .int .i64 c, .int .i64 d]) (.int .i64 2)).run Try.prog w = .ok (.int .i64 c) w := by
  first | rfl | kernel_rfl | (simp [Instr.index, run_underlying Try.underlying103, asIntOf, go_sem])
set_option maxRecDepth 100000 in
theorem ix4_3 (a b c d : Int) (w : World) : (Instr.index 103 (.agg #[.int .i64 a, .int .i64 b, .int .i64 c, .int .i64 d]) (.int .i64 3)).run Try.prog w = .ok (.int .i64 d) w := by
  first | rfl | kernel_rfl | (simp [Instr.index, run_underlying Try.underlying103, asIntOf, go_sem])
structure Sy where
  k : Nat
  b : UInt8
  l : Nat
  d : Nat
  r : Nat
deriving DecidableEq
abbrev Sy.val (s : Sy) : Value := SyV (s.k : Nat) s.b (s.l : Nat) (s.d : Nat) (s.r : Nat)
abbrev R4 := Int × Int × Int × Int
abbrev R4.val (r : R4) : Value := R4V r.1 r.2.1 r.2.2.1 r.2.2.2
def afterS (s : Sy) (r : R4) : R4 :=
  if s.k = 0 then r
  else if s.k = 1 then ((s.d : Int), r.1, r.2.1, r.2.2.1)
  else match s.r with
    | 0 => r
    | 1 => (r.2.1, r.1, r.2.2.1, r.2.2.2)
    | 2 => (r.2.2.1, r.1, r.2.1, r.2.2.2)
    | _ => (r.2.2.2, r.1, r.2.1, r.2.2.1)
def syCells (l : List Sy) : List Value := l.flatMap fun s => [Value.int .i64 (s.k : Nat), .int .u8 (s.b.toNat : Nat), .int .i64 (s.l : Nat), .int .i64 (s.d : Nat), .int .i64 (s.r : Nat)]
theorem syCells_length (l : List Sy) : (syCells l).length = l.length * 5 := by
  induction l with
  | nil => rfl
  | cons a l ih => simp only [syCells, List.flatMap_cons, List.length_append, List.length_cons, List.length_nil] at ih ⊢; omega
theorem syCells_append (l m : List Sy) : syCells (l ++ m) = syCells l ++ syCells m := by simp [syCells]
theorem syCells_get (l : List Sy) : ∀ i (h : i < l.length), (syCells l)[5 * i]? = some (.int .i64 (l[i].k : Nat)) ∧ (syCells l)[5 * i + 1]? = some (.int .u8 (l[i].b.toNat : Nat)) ∧ (syCells l)[5 * i + 2]? = some (.int .i64 (l[i].l : Nat)) ∧
    (syCells l)[5 * i + 3]? = some (.int .i64 (l[i].d : Nat)) ∧ (syCells l)[5 * i + 4]? = some (.int .i64 (l[i].r : Nat)) := by
  induction l with
  | nil => intro i h; simp at h
  | cons a l ih =>
    intro i h
    cases i with
    | zero => exact ⟨rfl, rfl, rfl, rfl, rfl⟩
    | succ i =>
      have := ih i (by simpa using h)
      rw [show 5 * (i + 1) = 5 * i + 1 + 1 + 1 + 1 + 1 by omega]
      exact this
/-- Symbols in memory of the call's own, that may be appended to. -/
def OwnS (base : Nat) (w : World) (v : Value) (l : List Sy) : Prop := w.ownsRow base 99 5 v l.length (syCells l)
set_option maxRecDepth 100000 in
theorem infoSy : (Try.prog.info? 99).map (fun i => (i.zero, i.size, i.bytes)) = some (some (.agg #[.int .i64 0, .int .u8 0, .int .i64 0, .int .i64 0, .int .i64 0]), 5, 40) := by kernel_rfl
theorem OwnS.nil (base : Nat) (w : World) : OwnS base w (.slice none 0 0) [] := World.ownsRow_nil w base _ 5
theorem OwnS.keep {base : Nat} {w w' : World} {v : Value} {l : List Sy} (h : OwnS base w v l) (hb : ∀ g, v.ownBlock = some g → w'.heap[g]? = w.heap[g]?) : OwnS base w' v l := by
  rcases h with ⟨h1, h2 | ⟨g, cap, cur, h2, h3, h4, h5⟩⟩
  · exact ⟨h1, .inl h2⟩
  · exact ⟨h1, .inr ⟨g, cap, cur, h2, h3, (hb g (by rw [h2]; rfl)).trans h4, h5⟩⟩
theorem OwnS.lt {base : Nat} {w : World} {v : Value} {l : List Sy} (h : OwnS base w v l) (g : Nat) (hg : v.ownBlock = some g) : base ≤ g ∧ g < w.heap.size := World.ownsRow.lt h g hg
theorem OwnS.weaken {base base' : Nat} {w : World} {v : Value} {l : List Sy} (h : OwnS base w v l) (hb : base' ≤ base) : OwnS base' w v l := by
  rcases h with ⟨h1, h2 | ⟨g, cap, cur, h2, h3, h4⟩⟩
  · exact ⟨h1, .inl h2⟩
  · exact ⟨h1, .inr ⟨g, cap, cur, h2, Nat.le_trans hb h3, h4⟩⟩
theorem OwnS.below {base : Nat} {w w' : World} {v : Value} {l : List Sy} (h : OwnS base w v l) (hb : Below w.heap.size w w') : OwnS base w' v l := h.keep fun g hg => hb.block g (h.lt g hg).2
theorem OwnS.set {base : Nat} {w : World} {v : Value} {l : List Sy} (h : OwnS base w v l) {p : Addr} (hp : p.block < base) (u : Value) : OwnS base (w.setCell p u) v l := h.keep fun g hg => heap_setCell_other _ _ _ _ (by have := (h.lt g hg).1; omega)
theorem OwnS.read {base : Nat} {w : World} {v : Value} {l : List Sy} (h : OwnS base w v l) (hl : 0 < l.length) :
    ∃ g cap, v = .slice (some ⟨g, 0, none⟩) l.length cap ∧ g < w.heap.size ∧ l.length ≤ cap ∧ cap ≤ 9223372036854775807 ∧ ∀ i (h : i < l.length), w.cell? ⟨g, 5 * i, none⟩ = some (.int .i64 (l[i].k : Nat)) ∧ w.cell? ⟨g, 5 * i + 1, none⟩ = some (.int .u8 (l[i].b.toNat : Nat)) ∧
      w.cell? ⟨g, 5 * i + 2, none⟩ = some (.int .i64 (l[i].l : Nat)) ∧ w.cell? ⟨g, 5 * i + 3, none⟩ = some (.int .i64 (l[i].d : Nat)) ∧ w.cell? ⟨g, 5 * i + 4, none⟩ = some (.int .i64 (l[i].r : Nat)) := by
  rcases h with ⟨h1, ⟨h2, h3⟩ | ⟨g, cap, cur, rfl, h3, h4, h5, h6, h7, h8⟩⟩
  · omega
  · refine ⟨g, cap, rfl, (Array.getElem?_eq_some_iff.1 h4).1, h5, by unfold maxLen at h6; exact h6, fun i hi => ?_⟩
    have hget := syCells_get l i hi
    have hc : ∀ j, j < l.length * 5 → w.cell? ⟨g, j, none⟩ = (syCells l)[j]? := fun j hj => by
      have e : cur[j]? = (syCells l)[j]? := by
        rw [← h8, List.getElem?_take_of_lt (by omega), Array.getElem?_toList]
      rw [← e, cell_of_row w g j _ _ _ h4]
    refine ⟨?_, ?_, ?_, ?_, ?_⟩
    · rw [hc _ (by omega)]; exact hget.1
    · rw [hc _ (by omega)]; exact hget.2.1
    · rw [hc _ (by omega)]; exact hget.2.2.1
    · rw [hc _ (by omega)]; exact hget.2.2.2.1
    · rw [hc _ (by omega)]; exact hget.2.2.2.2
set_option maxRecDepth 100000 in
theorem run_append_sy (ty : TypeId) (base : Nat) (w : World) (v : Value) (l : List Sy) (hown : OwnS base w v l) (hh c : Nat) (s : Sy)
    (hc : w.heap[hh]? = some (.cells (syCells [s]).toArray 99 (0, 0))) (hl : l.length ≤ 1000000) (hbase : base ≤ w.heap.size) :
    ∃ v' w', (Builtin.append_ #[126, 126] ty #[v, .slice (some ⟨hh, 0, none⟩) 1 c]).run Try.prog w = .ok v' w' ∧ OwnS base w' v' (l ++ [s]) ∧ w.grownBy w' v.ownBlock := by
  obtain ⟨i, hi, hz⟩ := Option.map_eq_some_iff.1 infoSy
  injection hz with hz0 hz; injection hz with hz1 hz2
  obtain ⟨v', w', hr, h2, h3, _⟩ := run_append_own (P := Try.prog) w base 126 ty 99 i _ 5 40 Try.underlying126 hi hz0 hz1 hz2 rfl (by decide)
    v l.length (syCells l) hown ⟨hh, 0, none⟩ 1 c (syCells [s]) (by rw [syCells_length]; rfl) (by
      intro j u hu
      have e : (⟨hh, 0, none⟩ : Addr).add j = ⟨hh, j, none⟩ := by unfold Addr.add; split <;> simp_all
      rw [e, cell_of_row w hh _ _ _ _ hc, List.getElem?_toArray, hu]) (by intro u hu; simp [syCells] at hu; rcases hu with rfl | rfl | rfl | rfl | rfl <;> rfl) (by unfold maxLen; omega) (by omega) hbase
  exact ⟨v', w', hr, by unfold OwnS; rw [syCells_append]; simpa using h2, h3⟩
theorem wpList_append_sy {ops : Array Oper} {rest : List Oper} {o : Oper} {a : Act} {Q : Exit → Act → World → Prop} (hgd : o.guard = none) (s x : Operand)
    (ho : o.op = .call { callee := .builtin .append, args := #[s, x], argTypes := #[126, 126] })
    (base : Nat) (w : World) (v : Value) (l : List Sy) (hs : a.eval s = v) (hown : OwnS base w v l) (hh c : Nat) (y : Sy) (hx : a.eval x = .slice (some ⟨hh, 0, none⟩) 1 c)
    (hc : w.heap[hh]? = some (.cells (syCells [y]).toArray 99 (0, 0))) (hl : l.length ≤ 1000000) (hbase : base ≤ w.heap.size)
    (h : ∀ v' w', OwnS base w' v' (l ++ [y]) → w.grownBy w' v.ownBlock → wpList Try.prog ops Q rest (a.put o.dst v') w') : wpList Try.prog ops Q (o :: rest) a w := by
  refine wpList_plain hgd fun K hK => ?_
  obtain ⟨v', w', hr, h2, h3⟩ := run_append_sy o.type base w v l hown hh c y hc hl hbase
  unfold Oper.wp execOp
  simp only [ho, resolve, invoke, builtin, Sem.run_bind, Sem.run_pure, Result.andThen_ok, List.map_toArray, List.map_cons, List.map_nil, hs, hx, hr]
  exact hK _ _ (h v' w' h2 h3)
theorem OwnS.form {base : Nat} {w : World} {v : Value} {l : List Sy} (h : OwnS base w v l) :
    ∃ A cap, v = .slice A l.length cap ∧ l.length ≤ cap ∧ cap ≤ 9223372036854775807 ∧ ∀ i (h : i < l.length), ∃ g, A = some ⟨g, 0, none⟩ ∧ g < w.heap.size ∧ w.cell? ⟨g, 5 * i, none⟩ = some (.int .i64 (l[i].k : Nat)) ∧ w.cell? ⟨g, 5 * i + 1, none⟩ = some (.int .u8 (l[i].b.toNat : Nat)) ∧
      w.cell? ⟨g, 5 * i + 2, none⟩ = some (.int .i64 (l[i].l : Nat)) ∧ w.cell? ⟨g, 5 * i + 3, none⟩ = some (.int .i64 (l[i].d : Nat)) ∧ w.cell? ⟨g, 5 * i + 4, none⟩ = some (.int .i64 (l[i].r : Nat)) := by
  by_cases hl : 0 < l.length
  · obtain ⟨g, cap, rfl, hg, hc, hm, hat⟩ := h.read hl
    exact ⟨_, cap, rfl, hc, hm, fun i hi => ⟨g, rfl, hg, hat i hi⟩⟩
  · rcases h with ⟨_, ⟨rfl, h3⟩ | ⟨g, cap, cur, rfl, h3, h4, h5, h6, _⟩⟩
    · exact ⟨none, 0, by rw [h3], by omega, by decide, fun i hi => by omega⟩
    · exact ⟨_, cap, rfl, h5, by unfold maxLen at h6; exact h6, fun i hi => by omega⟩
end Go.Proofs.Ytkckjjchfccdjaa

/- The model's code: a bit with a chance of a table, by either coder of bits. -/
namespace Go.Proofs.Ytkckjjchfccdjaa
set_option maxRecDepth 100000
open Go.RowKit

namespace Md
def eff (c : Nat) : Nat := if c = 0 then 1024 else c
theorem eff_fair {c : Nat} (h : c < 2048) : Rc.fair (eff c) = eff c := by unfold Rc.fair eff; split <;> split <;> omega
theorem eff_lt {c : Nat} (h : c < 2048) : eff c < 2048 := by unfold eff; split <;> omega
theorem eff_pos {c : Nat} (h : c ≠ 0) : eff c = c := by unfold eff; rw [if_neg h]
end Md
/-- What code comes to: a coder's step, and then a cell is stored. -/
def CodeDone (at_ : World → List Nat → Prop) (X : List Nat) (a : Addr) (bit : Bool) (p : Nat) (w : World) (e : Ending) (w' : World) : Prop :=
  e = .returned (.int .i64 (bitI bit)) ∧ ∃ w1 X', Only X w w1 ∧ at_ w1 X' ∧ (∀ i ∈ X', i ∈ X ∨ w.heap.size ≤ i) ∧ w' = w1.setCell a (.int .u16 (p : Nat))
def encAt (g : Nat) (s : Rc.St) (w : World) (X : List Nat) : Prop := ∃ o cap, X = [g, o] ∧ EncAt w g o cap s
def decAt (g o cap : Nat) (l : List UInt8) (s : Rd.St) (w : World) (X : List Nat) : Prop := X = [g, o] ∧ DecIs w g o cap l s
theorem cell_only {X : List Nat} {w w' : World} {a : Addr} {v : Value} (h : Only X w w') (hX : a.block ∉ X) (hc : w.cell? a = some v) : w'.cell? a = some v := by
  have hb : a.block < w.heap.size := block_lt_of_cell hc
  have e := h.block _ hb hX
  unfold World.cell? at hc ⊢
  rw [e]; exact hc
theorem frozen_only {X : List Nat} {w w' : World} {a : Addr} {b : Bool} (h : Only X w w') (hX : a.block ∉ X) (hl : a.block < w.heap.size) (hc : w.frozen? a = b) : w'.frozen? a = b := by
  have e := h.block _ hl hX
  unfold World.frozen? at hc ⊢
  rw [e]; exact hc

theorem Only.undrewN {X : List Nat} {a b : World} {n : Nat} (h : Only X (a.drewN n) b) : Only X a b := ⟨h.os, h.tape, h.output, h.size, h.block⟩
set_option maxRecDepth 100000 in
set_option maxHeartbeats 1000000 in
theorem code_enc (g o cap : Nat) (s : Rc.St) (b off n cp j c : Nat) (one : Bool) (w : World) (hE : EncAt w g o cap s) (hs : s.ok) (hk : 1 + s.k + 2 ≤ 140737488355328) (hX : b ∉ [g, o]) (hj : j < n) (hn : n ≤ cp) (hcp : cp ≤ 9223372036854775807)
    (hc : w.cell? ⟨b, off + j, none⟩ = some (.int .u16 (c : Nat))) (hf : w.frozen? ⟨b, off + j, none⟩ = false) (hcl : c < 2048) :
    Calls Try.prog 88 #[.iface 130 (.pointer (some ⟨g, 0, none⟩)), .slice (some ⟨b, off, none⟩) n cp, .int .i64 (j : Nat), .bool one] w
      (CodeDone (encAt g (Rc.St.scale 2 (s.pick (Md.eff c) one))) [g, o] ⟨b, off + j, none⟩ one (Rc.next (Md.eff c) one) w) := by
  have hm : ∀ w, (method 304 130 (.pointer (some ⟨g, 0, none⟩)) "Bit").run Try.prog w = .ok (128, .pointer (some ⟨g, 0, none⟩)) w := fun w => by kernel_rfl
  have hji : (j : Int) < (n : Int) := by omega
  have hni : (n : Int) ≤ 9223372036854775807 := by omega
  have HBIT := Lib.hid (fun (m : Nat) => show Calls Try.prog 128 #[.pointer (some ⟨g, 0, none⟩), .int .u16 (Md.eff c : Nat), .int .i64 (bitI one)] (w.drewN m) (BitDone (w.drewN m) g o (bitI one) (Rc.next (Md.eff c) one) (Rc.St.scale 2 (s.pick (Md.eff c) one))) from by
    have hbit := bit_any g o cap s (BitVec.ofNat 16 (Md.eff c)) (bitI one) (w.drewN m) ⟨hE.blk, hE.own, hE.ne⟩ hs hk
    have e0 : (BitVec.ofNat 16 (Md.eff c)).toNat = Md.eff c := by have := Md.eff_lt hcl; simp; omega
    have e1 : (bitI one != 0) = one := by cases one <;> rfl
    rw [e0, Md.eff_fair hcl, e1] at hbit
    exact hbit)
  have HX := Lib.hid hX
  have HC := Lib.hid hc
  have HF := Lib.hid hf
  clear hE hs hk hX hf
  obtain ⟨T, hT⟩ : ∃ T, Rc.St.scale 2 (s.pick (Md.eff c) one) = T := ⟨_, rfl⟩
  rw [hT] at HBIT ⊢
  obtain ⟨N, hN⟩ : ∃ N, Rc.next (Md.eff c) one = N := ⟨_, rfl⟩
  rw [hN] at HBIT ⊢
  clear hT hN
  by_cases h0 : c = 0
  · subst h0
    rw [show Md.eff 0 = 1024 from rfl] at HBIT
    cases one
    all_goals
      simp only [bitI, Bool.false_eq_true, if_false, if_true] at HBIT
      go_enter Try.func88, Try.ntmps88
      go_wp2_with fail
      go_quiet (fail)
      go_wp2_with fail
      refine (HBIT.out _).mono ?_
      rintro e w1 ⟨rfl, o', cap', hE1, hon, ho'⟩
      have hon' := Only.undrewN hon
      have hc1 := cell_only hon' HX.out HC.out
      have hf1 := frozen_only hon' HX.out (block_lt_of_cell HC.out) HF.out
      go_wp2_with fail
      go_ret
      exact ⟨rfl, w1, [g, o'], hon', ⟨o', cap', rfl, hE1⟩, by intro i hi; simp at hi; rcases hi with rfl | rfl; exact .inl (by simp); rcases ho' with h | h; exact .inl (by simp [h]); exact .inr h, rfl⟩

  · rw [Md.eff_pos h0] at HBIT
    have h0i : ((c : Nat) : Int) ≠ 0 := by omega
    have h0b : (((c : Nat) : Int) == 0) = false := beq_eq_false_iff_ne.2 h0i
    cases one
    all_goals
      simp only [bitI, Bool.false_eq_true, if_false, if_true] at HBIT
      go_enter Try.func88, Try.ntmps88
      go_wp2_with fail
      go_quiet (fail)
      go_wp2_with fail
      refine (HBIT.out _).mono ?_
      rintro e w1 ⟨rfl, o', cap', hE1, hon, ho'⟩
      have hon' := Only.undrewN hon
      have hc1 := cell_only hon' HX.out HC.out
      have hf1 := frozen_only hon' HX.out (block_lt_of_cell HC.out) HF.out
      go_wp2_with fail
      go_ret
      exact ⟨rfl, w1, [g, o'], hon', ⟨o', cap', rfl, hE1⟩, by intro i hi; simp at hi; rcases hi with rfl | rfl; exact .inl (by simp); rcases ho' with h | h; exact .inl (by simp [h]); exact .inr h, rfl⟩

set_option maxRecDepth 100000 in
set_option maxHeartbeats 1000000 in
theorem code_dec (g o cap : Nat) (l : List UInt8) (s : Rd.St) (b off n cp j c : Nat) (one : Bool) (w : World) (hE : DecIs w g o cap l s) (hs : s.ok l) (hl : l.length ≤ 140737488355328) (hX : b ∉ [g, o]) (hj : j < n) (hn : n ≤ cp) (hcp : cp ≤ 9223372036854775807)
    (hc : w.cell? ⟨b, off + j, none⟩ = some (.int .u16 (c : Nat))) (hf : w.frozen? ⟨b, off + j, none⟩ = false) (hcl : c < 2048) :
    Calls Try.prog 88 #[.iface 134 (.pointer (some ⟨g, 0, none⟩)), .slice (some ⟨b, off, none⟩) n cp, .int .i64 (j : Nat), .bool one] w
      (CodeDone (decAt g o cap l (s.bit l (Md.eff c)).2) [g, o] ⟨b, off + j, none⟩ (s.bit l (Md.eff c)).1 (Rc.next (Md.eff c) (s.bit l (Md.eff c)).1) w) := by
  have hm : ∀ w, (method 304 134 (.pointer (some ⟨g, 0, none⟩)) "Bit").run Try.prog w = .ok (135, .pointer (some ⟨g, 0, none⟩)) w := fun w => by kernel_rfl
  have hji : (j : Int) < (n : Int) := by omega
  have hni : (n : Int) ≤ 9223372036854775807 := by omega
  have HBIT := Lib.hid (fun (m : Nat) => show Calls Try.prog 135 #[.pointer (some ⟨g, 0, none⟩), .int .u16 (Md.eff c : Nat), .int .i64 (bitI one)] (w.drewN m) (DBit (w.drewN m) g o cap l (s.bit l (Md.eff c)).1 (Rc.next (Md.eff c) (s.bit l (Md.eff c)).1) (s.bit l (Md.eff c)).2) from by
    have hbit := dbit_any g o cap l s (BitVec.ofNat 16 (Md.eff c)) (bitI one) (w.drewN m) (hE.below (below_drewN (Below.refl _ _) m)) hs hl
    have e0 : (BitVec.ofNat 16 (Md.eff c)).toNat = Md.eff c := by have := Md.eff_lt hcl; simp; omega
    rw [e0, Md.eff_fair hcl] at hbit
    exact hbit)
  have HX := Lib.hid hX
  have HC := Lib.hid hc
  have HF := Lib.hid hf
  clear hE hs hl hX hf
  obtain ⟨⟨B, T⟩, hT⟩ : ∃ z, s.bit l (Md.eff c) = z := ⟨_, rfl⟩
  rw [hT] at HBIT ⊢
  simp only at HBIT ⊢
  obtain ⟨N, hN⟩ : ∃ N, Rc.next (Md.eff c) B = N := ⟨_, rfl⟩
  rw [hN] at HBIT ⊢
  clear hT hN
  by_cases h0 : c = 0
  · subst h0
    rw [show Md.eff 0 = 1024 from rfl] at HBIT
    cases one <;> cases B
    all_goals
      simp only [bitI, Bool.false_eq_true, if_false, if_true] at HBIT
      go_enter Try.func88, Try.ntmps88
      go_wp2_with fail
      go_quiet (fail)
      go_wp2_with fail
      refine (HBIT.out _).mono ?_
      rintro e w1 ⟨rfl, hE1, hon⟩
      have hon' : Only [g, o] w w1 := (Only.refl _ _).trans (Only.undrewN hon) (by intro i hi; simp at hi; exact .inl (by simp [hi]))
      have hc1 := cell_only hon' HX.out HC.out
      have hf1 := frozen_only hon' HX.out (block_lt_of_cell HC.out) HF.out
      go_wp2_with fail
      go_ret
      exact ⟨rfl, w1, [g, o], hon', ⟨rfl, hE1⟩, fun i hi => .inl hi, rfl⟩

  · rw [Md.eff_pos h0] at HBIT
    have h0i : ((c : Nat) : Int) ≠ 0 := by omega
    have h0b : (((c : Nat) : Int) == 0) = false := beq_eq_false_iff_ne.2 h0i
    cases one <;> cases B
    all_goals
      simp only [bitI, Bool.false_eq_true, if_false, if_true] at HBIT
      go_enter Try.func88, Try.ntmps88
      go_wp2_with fail
      go_quiet (fail)
      go_wp2_with fail
      refine (HBIT.out _).mono ?_
      rintro e w1 ⟨rfl, hE1, hon⟩
      have hon' : Only [g, o] w w1 := (Only.refl _ _).trans (Only.undrewN hon) (by intro i hi; simp at hi; exact .inl (by simp [hi]))
      have hc1 := cell_only hon' HX.out HC.out
      have hf1 := frozen_only hon' HX.out (block_lt_of_cell HC.out) HF.out
      go_wp2_with fail
      go_ret
      exact ⟨rfl, w1, [g, o], hon', ⟨rfl, hE1⟩, fun i hi => .inl hi, rfl⟩

end Go.Proofs.Ytkckjjchfccdjaa

/- The model's coder in memory, and the coder of bits that it goes by. -/
namespace Go.Proofs.Ytkckjjchfccdjaa
set_option maxRecDepth 100000
open Go.RowKit

namespace Md
/-- Where a chance lies, by the document's number: in the coder's struct, or in its table of literals. -/
def blkOf (C L i : Nat) : Nat := if i < 2180 then C else L
def offOf (i : Nat) : Nat := if i < 432 then 8 + i else if i < 1844 then 9 + i else if i < 2180 then i - 119 else i - 2180
def adr (C L i : Nat) : Addr := ⟨blkOf C L i, offOf i, none⟩
def used (n i : Nat) : Prop := i < 1716 ∨ (1844 ≤ i ∧ i < 2180 + 768 * n)
theorem blkOf_or (C L i : Nat) : blkOf C L i = C ∨ blkOf C L i = L := by
  unfold blkOf
  split
  · exact .inl rfl
  · exact .inr rfl
theorem adr_inj {C L n i j : Nat} (hne : C ≠ L) (hi : used n i) (hj : used n j) (h : adr C L i = adr C L j) : i = j := by
  unfold used at hi hj
  have h1 : blkOf C L i = blkOf C L j := congrArg Addr.block h
  have h2 : offOf i = offOf j := congrArg Addr.off h
  have h3 : i < 2180 ↔ j < 2180 := by
    unfold blkOf at h1
    by_cases h4 : i < 2180 <;> by_cases h5 : j < 2180 <;> simp [h4, h5] at h1 ⊢
    · exact hne h1
    · exact hne h1.symm
  unfold offOf at h2
  by_cases a1 : i < 432 <;> by_cases a2 : i < 1844 <;> by_cases a3 : i < 2180 <;> by_cases b1 : j < 432 <;> by_cases b2 : j < 1844 <;> by_cases b3 : j < 2180 <;> simp only [a1, a2, a3, b1, b2, b3, if_true, if_false] at h2 <;> omega
theorem adr_far {C L i k : Nat} (hne : C ≠ L) (hk : k < 8 ∨ k = 440) : adr C L i ≠ ⟨C, k, none⟩ := by
  intro h
  have h1 : blkOf C L i = C := congrArg Addr.block h
  have h2 : offOf i = k := congrArg Addr.off h
  have h3 : i < 2180 := by
    unfold blkOf at h1
    by_cases h4 : i < 2180
    · exact h4
    · rw [if_neg h4] at h1; exact absurd h1.symm hne
  unfold offOf at h2
  by_cases a1 : i < 432 <;> by_cases a2 : i < 1844 <;> simp only [a1, a2, h3, if_true, if_false] at h2 <;> omega
def put (P : Nat → Nat) (i p : Nat) : Nat → Nat := fun j => if j = i then p else P j
end Md
/-- A coder of bits, as the model sees it. -/
structure Io where
  σ : Type
  t : TypeId
  g : Nat
  F : Nat
  at_ : World → σ → List Nat → Prop
  ok : σ → Nat → Prop
  bit : σ → Nat → Bool → Bool × σ
  plain : σ → Nat → Nat → Nat × σ
  keep : ∀ {w w' s X}, at_ w s X → w.heap.size ≤ w'.heap.size → (∀ i ∈ X, w'.heap[i]? = w.heap[i]?) → at_ w' s X
  lt : ∀ {w s X}, at_ w s X → ∀ i ∈ X, i < w.heap.size
  okBit : ∀ {s n p b}, ok s (n + 1) → 1 ≤ p → p ≤ 2047 → ok (bit s p b).2 n
  okPlain : ∀ {s n x m}, ok s (n + 32) → m ≤ 32 → ok (plain s x m).2 n
  le : ∀ {s n m}, ok s n → m ≤ n → ok s m
  plainLt : ∀ {s n x m}, ok s n → x < 2 ^ m → (plain s x m).1 < 2 ^ m
  kind : F = 129 ∨ F = 136
  meth : ∀ w, (method 304 t (.pointer (some ⟨g, 0, none⟩)) "Plain").run Try.prog w = .ok (F, .pointer (some ⟨g, 0, none⟩)) w
  code : ∀ (w : World) (s : σ) (X : List Nat) (b off n cp j c : Nat) (one : Bool), at_ w s X → ok s 1 → b ∉ X → j < n → n ≤ cp → cp ≤ 9223372036854775807 → w.cell? ⟨b, off + j, none⟩ = some (.int .u16 (c : Nat)) → w.frozen? ⟨b, off + j, none⟩ = false → c < 2048 →
    Calls Try.prog 88 #[.iface t (.pointer (some ⟨g, 0, none⟩)), .slice (some ⟨b, off, none⟩) n cp, .int .i64 (j : Nat), .bool one] w
      (CodeDone (fun w' X' => at_ w' (bit s (Md.eff c) one).2 X') X ⟨b, off + j, none⟩ (bit s (Md.eff c) one).1 (Rc.next (Md.eff c) (bit s (Md.eff c) one).1) w)
  plain_ : ∀ (w : World) (s : σ) (X : List Nat) (x m : Nat), at_ w s X → ok s 32 → x < 4294967296 → m ≤ 32 →
    Calls Try.prog F #[.pointer (some ⟨g, 0, none⟩), .int .u32 (x : Nat), .int .i64 (m : Nat)] w
      (fun e w' => e = .returned (.int .u32 ((plain s (x % 2 ^ m) m).1 : Nat)) ∧ ∃ X', Only X w w' ∧ at_ w' (plain s (x % 2 ^ m) m).2 X' ∧ ∀ i ∈ X', i ∈ X ∨ w.heap.size ≤ i)
abbrev Io.v (io : Io) : Value := .iface io.t (.pointer (some ⟨io.g, 0, none⟩))
/-- The chances, and the coder of bits. -/
abbrev Io.S (io : Io) : Type := (Nat → Nat) × io.σ
def Io.bitAt (io : Io) (i : Nat) (b : Bool) (x : io.S) : Bool × io.S := ((io.bit x.2 (x.1 i) b).1, (Md.put x.1 i (Rc.next (x.1 i) (io.bit x.2 (x.1 i) b).1), (io.bit x.2 (x.1 i) b).2))

def encIo (g : Nat) : Io where
  σ := Rc.St
  t := 130
  g := g
  F := 129
  at_ w s X := ∃ o cap, X = [g, o] ∧ EncAt w g o cap s
  ok s n := s.ok ∧ 1 + s.k + 2 * n ≤ 140737488355328
  bit s p b := (b, Rc.St.scale 2 (s.pick p b))
  plain s x m := (x, s.plain x m)
  keep := by
    rintro w w' s X ⟨o, cap, rfl, h⟩ _ hk
    exact ⟨o, cap, rfl, h.keep (hk g (by simp)) (hk o (by simp))⟩
  lt := by
    rintro w s X ⟨o, cap, rfl, h⟩ i hi
    simp at hi
    rcases hi with rfl | rfl
    · exact h.lt.1
    · exact h.lt.2
  okBit := by
    rintro s n p b ⟨h1, h2⟩ h3 h4
    obtain ⟨hf, hr⟩ := s.pick_fits p b h1 h3 h4
    have hk := Rc.St.scale_k 2 (s.pick p b)
    rw [Rc.St.pick_k] at hk
    exact ⟨Rc.St.scale_ok 2 _ hf (by omega), by show 1 + (Rc.St.scale 2 (s.pick p b)).k + 2 * n ≤ _; omega⟩
  okPlain := by
    rintro s n x m ⟨h1, h2⟩ h3
    obtain ⟨hf, hk⟩ := s.plain_ok h1 m x
    exact ⟨hf, by show 1 + (s.plain x m).k + 2 * n ≤ _; omega⟩
  le := by
    rintro s n m ⟨h1, h2⟩ h
    exact ⟨h1, by omega⟩
  plainLt := by
    rintro s n x m _ h
    exact h
  kind := .inl rfl
  meth w := by kernel_rfl
  code := by
    rintro w s X b off n cp j c one ⟨o, cap, rfl, h⟩ ⟨h1, h2⟩ hX hj hn hcp hc hf hcl
    exact code_enc g o cap s b off n cp j c one w h h1 (by omega) hX hj hn hcp hc hf hcl
  plain_ := by
    rintro w s X x m ⟨o, cap, rfl, h⟩ ⟨h1, h2⟩ hx hm
    have hp := plain_any g o cap s (BitVec.ofNat 32 x) (m : Nat) w h h1 (by omega)
    have e0 : (BitVec.ofNat 32 x).toNat = x := by simp; omega
    have e1 : many (m : Nat) = m := by unfold many; omega
    rw [e0, e1] at hp
    refine hp.mono ?_
    rintro e w' ⟨rfl, o', cap', hE, hon, ho⟩
    exact ⟨rfl, [g, o'], hon, ⟨o', cap', rfl, hE⟩, by intro i hi; simp at hi; rcases hi with rfl | rfl; exact .inl (by simp); rcases ho with h | h; exact .inl (by simp [h]); exact .inr h⟩
def decIo (g o cap : Nat) (l : List UInt8) : Io where
  σ := Rd.St
  t := 134
  g := g
  F := 136
  at_ w s X := X = [g, o] ∧ DecIs w g o cap l s
  ok s _ := s.ok l ∧ l.length ≤ 140737488355328
  bit s p _ := s.bit l p
  plain s _ m := s.plain l m
  keep := by
    rintro w w' s X ⟨rfl, x, y, h, hD⟩ hs hk
    exact ⟨rfl, x, y, h, hD.keep hs (hk g (by simp)) (hk o (by simp))⟩
  lt := by
    rintro w s X ⟨rfl, x, y, h, hD⟩ i hi
    simp at hi
    rcases hi with rfl | rfl
    · exact hD.glt
    · exact hD.lt
  okBit := by
    rintro s n p b ⟨h1, h2⟩ h3 h4
    exact ⟨Rd.St.bit_ok h1 h3 h4, h2⟩
  okPlain := by
    rintro s n x m ⟨h1, h2⟩ h3
    refine ⟨?_, h2⟩
    have := (Rd.St.rounds_ok h1 m).1
    show (s.plain l m).2.ok l
    unfold Rd.St.plain
    split
    · exact this
    · exact this
  le := by
    rintro s n m h _
    exact h
  plainLt := by
    rintro s n x m ⟨h1, h2⟩ _
    have hp : 0 < 2 ^ m := Nat.pow_pos (by decide)
    have := (Rd.St.rounds_ok h1 m).2
    show (s.plain l m).1 < 2 ^ m
    unfold Rd.St.plain
    split
    · exact hp
    · exact this
  kind := .inr rfl
  meth w := by kernel_rfl
  code := by
    rintro w s X b off n cp j c one ⟨rfl, h⟩ ⟨h1, h2⟩ hX hj hn hcp hc hf hcl
    exact code_dec g o cap l s b off n cp j c one w h h1 h2 hX hj hn hcp hc hf hcl
  plain_ := by
    rintro w s X x m ⟨rfl, h⟩ ⟨h1, h2⟩ hx hm
    have hp := dplain_any g o cap l s (BitVec.ofNat 32 x) (m : Nat) w h h1 h2
    have e0 : (BitVec.ofNat 32 x).toNat = x := by simp; omega
    have e1 : many (m : Nat) = m := by unfold many; omega
    rw [e0, e1] at hp
    refine hp.mono ?_
    rintro e w' ⟨rfl, hE, hon⟩
    exact ⟨rfl, [g, o], (Only.refl _ _).trans hon (by intro i hi; simp at hi; exact .inl (by simp [hi])), ⟨rfl, hE⟩, fun i hi => .inl hi⟩
end Go.Proofs.Ytkckjjchfccdjaa
