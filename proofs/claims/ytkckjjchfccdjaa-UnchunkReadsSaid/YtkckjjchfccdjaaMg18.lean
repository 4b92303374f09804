/- Several texts in one: MbMem, MbStart, MlBase2. -/
import Derived.Test.YtkckjjchfccdjaaMg17
import Derived.Test.YtkckjjchfccdjaaMg13
import Derived.Test.YtkckjjchfccdjaaMg15
/- The round trip's memory: a coder of symbols, the reference's, a history, symbols put, apart from one another. -/
namespace Go.Proofs.Ytkckjjchfccdjaa
set_option maxRecDepth 100000
open Go.RowKit

/-- An append of a symbol, and where it lies. -/
theorem wpList_append_sy2 {ops : Array Oper} {rest : List Oper} {o : Oper} {a : Act} {Q : Exit → Act → World → Prop} (hgd : o.guard = none) (s x : Operand)
    (ho : o.op = .call { callee := .builtin .append, args := #[s, x], argTypes := #[126, 126] })
    (base : Nat) (w : World) (v : Value) (l : List Sy) (hs : a.eval s = v) (hown : OwnS base w v l) (hh c : Nat) (y : Sy) (hx : a.eval x = .slice (some ⟨hh, 0, none⟩) 1 c)
    (hc : w.heap[hh]? = some (.cells (syCells [y]).toArray 99 (0, 0))) (hl : l.length ≤ 1000000) (hbase : base ≤ w.heap.size)
    (h : ∀ v' w', OwnS base w' v' (l ++ [y]) → w.grownBy w' v.ownBlock → (v'.ownBlock = v.ownBlock ∨ v'.ownBlock = some w.heap.size) → wpList Try.prog ops Q rest (a.put o.dst v') w') : wpList Try.prog ops Q (o :: rest) a w := by
  refine wpList_plain hgd fun K hK => ?_
  obtain ⟨i, hi, hz⟩ := Option.map_eq_some_iff.1 infoSy
  injection hz with hz0 hz; injection hz with hz1 hz2
  obtain ⟨v', w', hr, h2, h3, _, h5⟩ := run_append_own_at (P := Try.prog) w base 126 o.type 99 i _ 5 40 Try.underlying126 hi hz0 hz1 hz2 rfl (by decide)
    v l.length (syCells l) hown ⟨hh, 0, none⟩ 1 c (syCells [y]) (by rw [syCells_length]; rfl) (by
      intro j u hu
      have e : (⟨hh, 0, none⟩ : Addr).add j = ⟨hh, j, none⟩ := by unfold Addr.add; split <;> simp_all
      rw [e, cell_of_row w hh _ _ _ _ hc, List.getElem?_toArray, hu]) (by intro u hu; simp [syCells] at hu; rcases hu with rfl | rfl | rfl | rfl | rfl <;> rfl) (by unfold maxLen; omega) (by omega) hbase
  unfold Oper.wp execOp
  simp only [ho, resolve, invoke, builtin, Sem.run_bind, Sem.run_pure, Result.andThen_ok, List.map_toArray, List.map_cons, List.map_nil, hs, hx, hr]
  exact hK _ _ (h v' w' (by unfold OwnS; rw [syCells_append]; simpa using h2) h3 h5)
/-- Parts of memory; those of Wr lie apart from all others. -/
structure Sep (Wr : Nat → Prop) (lo n : Nat) (p : Nat → List Nat) : Prop where
  dis : ∀ a b, Wr a → a ≠ b → ∀ i ∈ p a, i ∉ p b
  lt : ∀ a, ∀ i ∈ p a, i < n
  lo : ∀ a, a = 0 ∨ a = 1 ∨ a = 3 → ∀ i ∈ p a, lo ≤ i
def pset (p : Nat → List Nat) (k : Nat) (Y : List Nat) : Nat → List Nat := fun a => if a = k then Y else p a
theorem pset_same (p : Nat → List Nat) (k : Nat) (Y : List Nat) : pset p k Y k = Y := if_pos rfl
theorem pset_ne {p : Nat → List Nat} {k a : Nat} (Y : List Nat) (h : a ≠ k) : pset p k Y a = p a := if_neg h
theorem Sep.step {Wr : Nat → Prop} {lo n n' : Nat} {p : Nat → List Nat} (h : Sep Wr lo n p) (k : Nat) {Y : List Nat} (hn : n ≤ n') (hlo : lo ≤ n) (hY : ∀ i ∈ Y, (i ∈ p k ∨ n ≤ i) ∧ i < n') : Sep Wr lo n' (pset p k Y) := by
  refine ⟨fun a b hw hab i hi => ?_, fun a i hi => ?_, fun a ha i hi => ?_⟩
  · by_cases hak : a = k
    · subst hak
      rw [pset_same] at hi
      rw [pset_ne Y (fun e => hab e.symm)]
      intro hb
      rcases (hY i hi).1 with h1 | h1
      · exact h.dis a b hw hab i h1 hb
      · have := h.lt b i hb; omega
    · rw [pset_ne Y hak] at hi
      by_cases hbk : b = k
      · subst hbk
        rw [pset_same]
        intro hb
        rcases (hY i hb).1 with h1 | h1
        · exact h.dis a b hw hab i hi h1
        · have := h.lt a i hi; omega
      · rw [pset_ne Y hbk]
        exact h.dis a b hw hab i hi
  · by_cases hak : a = k
    · subst hak
      rw [pset_same] at hi
      exact (hY i hi).2
    · rw [pset_ne Y hak] at hi
      exact Nat.lt_of_lt_of_le (h.lt a i hi) hn
  · by_cases hak : a = k
    · subst hak
      rw [pset_same] at hi
      rcases (hY i hi).1 with h1 | h1
      · exact h.lo a ha i h1
      · omega
    · rw [pset_ne Y hak] at hi
      exact h.lo a ha i hi
theorem Sep.more {Wr : Nat → Prop} {lo n n' : Nat} {p : Nat → List Nat} (h : Sep Wr lo n p) (hn : n ≤ n') : Sep Wr lo n' p := ⟨h.dis, fun a i hi => Nat.lt_of_lt_of_le (h.lt a i hi) hn, h.lo⟩
def HistIn (w : World) (v : Value) (H : List UInt8) (Y : List Nat) : Prop := ∃ A c, v = .slice A H.length c ∧ H.length ≤ c ∧ c ≤ 9223372036854775807 ∧ Bytes w A H ∧ ∀ a, A = some a → a.block ∈ Y
theorem HistIn.keep {w w' : World} {v : Value} {H : List UInt8} {Y : List Nat} (h : HistIn w v H Y) (hs : w.heap.size ≤ w'.heap.size) (hY : ∀ i ∈ Y, w'.heap[i]? = w.heap[i]?) : HistIn w' v H Y := by
  obtain ⟨A, c, rfl, hc, hm, hB, hA⟩ := h
  refine ⟨A, c, rfl, hc, hm, hB.keep hs (fun p hp hl => ?_), hA⟩
  cases A with
  | none => cases hp
  | some a =>
    have e : a.block = p.block := by simpa using hp
    unfold World.cell?
    rw [← e, hY _ (hA a rfl)]
theorem MS.keepAll {io : Io} {w w' : World} {C L lc lp pb st : Nat} {r : R4} {x : io.S} {X : List Nat} (h : MS io w C L lc lp pb st r x X) (hs : w.heap.size ≤ w'.heap.size) (hk : ∀ i ∈ C :: L :: X, w'.heap[i]? = w.heap[i]?) : MS io w' C L lc lp pb st r x X :=
  ⟨h.mod.keep (hk C (by simp)) (hk L (by simp)), io.keep h.io hs (fun i hi => hk i (by simp [hi])), h.outC, h.outL⟩
/-- All that a loop of the laws holds. -/
structure Lp (w0 w : World) (io : Io) (C L lc lp pb st : Nat) (r : R4) (x : io.S) (X : List Nat) (C2 base : Nat) (st2 : Nat) (r2 : R4) (hv : Value) (H : List UInt8) (pv : Value) (ss : List Sy) (R : World → Prop) (Wr : Nat → Prop) (p : Nat → List Nat) : Prop where
  ms : MS io w C L lc lp pb st r x X
  p0 : p 0 = C :: L :: X
  cod : ∃ Pl vR vP, CodAt w C2 base (lc : Nat) (lp : Nat) (pb : Nat) (st2 : Nat) r2 Pl vR vP ∧ C2 ∈ p 1 ∧ (∀ g, vR.ownBlock = some g → g ∈ p 1) ∧ ∀ g, vP.ownBlock = some g → g ∈ p 1
  base : base ≤ w.heap.size
  hist : HistIn w hv H (p 2)
  puts : OwnS w0.heap.size w pv ss ∧ ∀ g, pv.ownBlock = some g → g ∈ p 3
  rest : R w
  frame : ∀ w1 w2, R w1 → w1.heap.size ≤ w2.heap.size → (∀ i ∈ p 4, w2.heap[i]? = w1.heap[i]?) → R w2
  sep : Sep Wr w0.heap.size w.heap.size p
  wr : Wr 0 ∧ Wr 1 ∧ Wr 3
  below : Below w0.heap.size w0 w
section
variable {w0 w w' : World} {io : Io} {C L lc lp pb st : Nat} {r : R4} {x : io.S} {X : List Nat} {C2 base st2 : Nat} {r2 : R4} {hv : Value} {H : List UInt8} {pv : Value} {ss : List Sy} {R : World → Prop} {Wr : Nat → Prop} {p : Nat → List Nat}
theorem Lp.codKeep (t : Lp w0 w io C L lc lp pb st r x X C2 base st2 r2 hv H pv ss R Wr p) (hk : ∀ i ∈ p 1, w'.heap[i]? = w.heap[i]?) : ∃ Pl vR vP, CodAt w' C2 base (lc : Nat) (lp : Nat) (pb : Nat) (st2 : Nat) r2 Pl vR vP ∧ C2 ∈ p 1 ∧ (∀ g, vR.ownBlock = some g → g ∈ p 1) ∧ ∀ g, vP.ownBlock = some g → g ∈ p 1 := by
  obtain ⟨Pl, vR, vP, hC, h1, h2, h3⟩ := t.cod
  exact ⟨Pl, vR, vP, ⟨(hk C2 h1).trans hC.box, hC.reps.keep fun g hg => hk g (h2 g hg), hC.ps.keep fun g hg => hk g (h3 g hg)⟩, h1, h2, h3⟩
theorem Lp.next (t : Lp w0 w io C L lc lp pb st r x X C2 base st2 r2 hv H pv ss R Wr p) (hb : Below w.heap.size w w') : Lp w0 w' io C L lc lp pb st r x X C2 base st2 r2 hv H pv ss R Wr p := by
  have hk : ∀ a, ∀ i ∈ p a, w'.heap[i]? = w.heap[i]? := fun a i hi => hb.block i (t.sep.lt a i hi)
  exact ⟨t.ms.below hb, t.p0, t.codKeep (hk 1), Nat.le_trans t.base hb.size, t.hist.keep hb.size (hk 2), ⟨t.puts.1.below hb, t.puts.2⟩, t.frame _ _ t.rest hb.size (hk 4), t.frame, t.sep.more hb.size, t.wr, t.below.trans (hb.mono t.below.size)⟩
theorem Lp.code {st' : Nat} {r' : R4} {x' : io.S} (t : Lp w0 w io C L lc lp pb st r x X C2 base st2 r2 hv H pv ss R Wr p) (hw : Went io C L lc lp pb st' r' x' X w w') :
    ∃ X' p', Lp w0 w' io C L lc lp pb st' r' x' X' C2 base st2 r2 hv H pv ss R Wr p' ∧ p' 4 = p 4 := by
  obtain ⟨X', hM, hon, hX⟩ := hw
  have hk : ∀ a, a ≠ 0 → ∀ i ∈ p a, w'.heap[i]? = w.heap[i]? := fun a ha i hi => hon.block i (t.sep.lt a i hi) (fun hm => t.sep.dis 0 a t.wr.1 (fun e => ha e.symm) i (by rw [t.p0]; exact hm) hi)
  have hY : ∀ i ∈ C :: L :: X', (i ∈ p 0 ∨ w.heap.size ≤ i) ∧ i < w'.heap.size := by
    intro i hi
    refine ⟨?_, hM.ltall i hi⟩
    rw [t.p0]
    simp only [List.mem_cons] at hi ⊢
    rcases hi with rfl | rfl | hi
    · exact .inl (.inl rfl)
    · exact .inl (.inr (.inl rfl))
    · rcases hX i hi with h | h
      · exact .inl (.inr (.inr h))
      · exact .inr h
  have e : ∀ a, a ≠ 0 → pset p 0 (C :: L :: X') a = p a := fun a ha => pset_ne _ ha
  refine ⟨X', pset p 0 (C :: L :: X'), ⟨hM, pset_same _ _ _, ?_, Nat.le_trans t.base hon.size, ?_, ?_, t.frame _ _ t.rest hon.size (hk 4 (by decide)), ?_, t.sep.step 0 hon.size t.below.size hY, t.wr, Only.below_of t.below hon (fun i hi => t.sep.lo 0 (.inl rfl) i (by rw [t.p0]; exact hi))⟩, e 4 (by decide)⟩
  · rw [e 1 (by decide)]; exact t.codKeep (hk 1 (by decide))
  · rw [e 2 (by decide)]; exact t.hist.keep hon.size (hk 2 (by decide))
  · rw [e 3 (by decide)]; exact ⟨t.puts.1.keep fun g hg => hk 3 (by decide) g (t.puts.2 g hg), t.puts.2⟩
  · rw [e 4 (by decide)]; exact t.frame
theorem Lp.bec (t : Lp w0 w io C L lc lp pb st r x X C2 base st2 r2 hv H pv ss R Wr p) : ∃ Pl vR vP, CodAt w C2 base (lc : Nat) (lp : Nat) (pb : Nat) (st2 : Nat) r2 Pl vR vP ∧ ∀ (st' : Nat) (r' : R4) (e : Ending) (w' : World), BecDone2 C2 base (lc : Nat) (lp : Nat) (pb : Nat) (st' : Nat) r' Pl vR vP w e w' → e = .returned (.tuple #[]) ∧ ∃ p', Lp w0 w' io C L lc lp pb st r x X C2 base st' r' hv H pv ss R Wr p' ∧ p' 4 = p 4 := by
  obtain ⟨Pl, vR, vP, hC, h1, h2, h3⟩ := t.cod
  refine ⟨Pl, vR, vP, hC, ?_⟩
  rintro st' r' e w' ⟨vR', rfl, hC', hg, hv⟩
  refine ⟨rfl, ?_⟩
  have hk : ∀ a, a ≠ 1 → ∀ i ∈ p a, w'.heap[i]? = w.heap[i]? := fun a ha i hi => hg.block i (t.sep.lt a i hi) (fun hm => t.sep.dis 1 a t.wr.2.1 (fun e => ha e.symm) i (by injection hm with hm; rw [hm]; exact h1) hi)
  have hsz := hg.size
  have hY : ∀ i ∈ C2 :: (vR'.ownBlock.toList ++ vP.ownBlock.toList), (i ∈ p 1 ∨ w.heap.size ≤ i) ∧ i < w'.heap.size := by
    intro i hi
    simp only [List.mem_cons, List.mem_append, Option.mem_toList] at hi
    rcases hi with rfl | hi | hi
    · exact ⟨.inl h1, hC'.lt⟩
    · refine ⟨?_, (hC'.reps.lt i hi).2⟩
      rcases hv with hv | hv
      · rw [hv] at hi; exact .inl (h2 i hi)
      · exact .inr (hv i hi)
    · exact ⟨.inl (h3 i hi), (hC'.ps.lt i hi).2⟩
  have e : ∀ a, a ≠ 1 → pset p 1 (C2 :: (vR'.ownBlock.toList ++ vP.ownBlock.toList)) a = p a := fun a ha => pset_ne _ ha
  refine ⟨pset p 1 (C2 :: (vR'.ownBlock.toList ++ vP.ownBlock.toList)), ⟨t.ms.keepAll hsz (fun i hi => hk 0 (by decide) i (by rw [t.p0]; exact hi)), by rw [e 0 (by decide)]; exact t.p0, ⟨Pl, vR', vP, hC', ?_, ?_, ?_⟩, Nat.le_trans t.base hsz, ?_, ?_, t.frame _ _ t.rest hsz (hk 4 (by decide)), ?_, t.sep.step 1 hsz t.below.size hY, t.wr, ?_⟩, e 4 (by decide)⟩
  · rw [pset_same]; simp
  · intro g hg; rw [pset_same]; simp [hg]
  · intro g hg; rw [pset_same]; simp [hg]
  · rw [e 2 (by decide)]; exact t.hist.keep hsz (hk 2 (by decide))
  · rw [e 3 (by decide)]; exact ⟨t.puts.1.keep fun g hg => hk 3 (by decide) g (t.puts.2 g hg), t.puts.2⟩
  · rw [e 4 (by decide)]; exact t.frame
  · exact below_grown t.below hg t.below.size (fun g e => by injection e with e; subst e; exact t.sep.lo 1 (.inr (.inl rfl)) _ h1)
theorem Lp.grow {v : Value} {H' : List UInt8} (t : Lp w0 w io C L lc lp pb st r x X C2 base st2 r2 hv H pv ss R Wr p) (hb : Below w.heap.size w w') (ho : Own w.heap.size w' v H') :
    ∃ p', Lp w0 w' io C L lc lp pb st r x X C2 base st2 r2 v H' pv ss R Wr p' ∧ p' 4 = p 4 := by
  have t' := t.next hb
  have hf := ho.from_base
  obtain ⟨A, c, rfl, hc, hm, hB⟩ := ho.read
  have e : ∀ a, a ≠ 2 → pset p 2 (A.map (·.block)).toList a = p a := fun a ha => pset_ne _ ha
  have hY : ∀ i ∈ (A.map (·.block)).toList, (i ∈ p 2 ∨ w.heap.size ≤ i) ∧ i < w'.heap.size := by
    intro i hi
    simp only [Option.mem_toList, Option.map_eq_some_iff] at hi
    obtain ⟨a, rfl, rfl⟩ := hi
    exact ⟨.inr (hf _ rfl).1, (hf _ rfl).2⟩
  refine ⟨pset p 2 (A.map (·.block)).toList, ⟨t'.ms, by rw [e 0 (by decide)]; exact t.p0, by rw [e 1 (by decide)]; exact t'.cod, t'.base, ?_, by rw [e 3 (by decide)]; exact t'.puts, t'.rest, by rw [e 4 (by decide)]; exact t.frame, t.sep.step 2 hb.size t.below.size hY, t.wr, t'.below⟩, e 4 (by decide)⟩
  exact ⟨A, c, rfl, hc, hm, hB, fun a ha => by rw [pset_same, ha]; simp⟩
theorem Lp.append {pv' : Value} {ss' : List Sy} (t : Lp w0 w io C L lc lp pb st r x X C2 base st2 r2 hv H pv ss R Wr p) (ho : OwnS w0.heap.size w' pv' ss') (hg : w.grownBy w' pv.ownBlock) (hl : pv'.ownBlock = pv.ownBlock ∨ pv'.ownBlock = some w.heap.size) :
    ∃ p', Lp w0 w' io C L lc lp pb st r x X C2 base st2 r2 hv H pv' ss' R Wr p' ∧ p' 4 = p 4 := by
  have hsz := hg.size
  have hk : ∀ a, a ≠ 3 → ∀ i ∈ p a, w'.heap[i]? = w.heap[i]? := fun a ha i hi => hg.block i (t.sep.lt a i hi) (fun hm => t.sep.dis 3 a t.wr.2.2 (fun e => ha e.symm) i (t.puts.2 i hm.symm) hi)
  have hY : ∀ i ∈ pv'.ownBlock.toList, (i ∈ p 3 ∨ w.heap.size ≤ i) ∧ i < w'.heap.size := by
    intro i hi
    simp only [Option.mem_toList] at hi
    refine ⟨?_, (ho.lt i hi).2⟩
    rcases hl with h | h
    · rw [h] at hi; exact .inl (t.puts.2 i hi)
    · rw [h] at hi; injection hi with hi; exact .inr (Nat.le_of_eq hi)
  have e : ∀ a, a ≠ 3 → pset p 3 pv'.ownBlock.toList a = p a := fun a ha => pset_ne _ ha
  refine ⟨pset p 3 pv'.ownBlock.toList, ⟨t.ms.keepAll hsz (fun i hi => hk 0 (by decide) i (by rw [t.p0]; exact hi)), by rw [e 0 (by decide)]; exact t.p0, by rw [e 1 (by decide)]; exact t.codKeep (hk 1 (by decide)), Nat.le_trans t.base hsz, ?_, ⟨ho, fun g h => by rw [pset_same]; simp [h]⟩, t.frame _ _ t.rest hsz (hk 4 (by decide)), ?_, t.sep.step 3 hsz t.below.size hY, t.wr, ?_⟩, e 4 (by decide)⟩
  · rw [e 2 (by decide)]; exact t.hist.keep hsz (hk 2 (by decide))
  · rw [e 4 (by decide)]; exact t.frame
  · exact below_grown t.below hg t.below.size (fun g e => t.sep.lo 3 (.inr (.inr rfl)) _ (t.puts.2 g e))
end
end Go.Proofs.Ytkckjjchfccdjaa

/- Where the two loops of the round trip begin. -/
namespace Go.Proofs.Ytkckjjchfccdjaa
set_option maxRecDepth 100000
open Go.RowKit

theorem becomes_ints {C base : Nat} {lc lp pb : Int} {st : Nat} {r : R4} {P : List Nat} {vR vP : Value} {n k : Int} {b : UInt8} {l d q : Int} {w : World} (hC : CodAt w C base lc lp pb (st : Nat) r P vR vP) (hbase : base ≤ w.heap.size) (hst : st < 12) (hf : fitsZ r n k l d q = true) :
    Calls Try.prog 44 #[PF C, SyV k b l d q] w (BecDone2 C base lc lp pb (stateAfter (st : Nat) k l) (repsAfter r k d q) P vR vP w) := by
  rcases fitsZ_cases hf with rfl | ⟨rfl, _⟩ | ⟨rfl, h0, h1, _⟩
  · exact becomes_lit2 C base lc lp pb (st : Nat) r P vR vP b l d q w hC (by omega) (by omega)
  · exact becomes_match2 C base lc lp pb (st : Nat) r P vR vP b l d q w hC hbase
  · obtain ⟨q, rfl⟩ : ∃ n : Nat, q = n := ⟨q.toNat, by omega⟩
    exact becomes_rep2 C base lc lp pb (st : Nat) r P vR vP b l d q w hC hbase (by omega)
theorem sep_of {Wr : Nat → Prop} {lo n : Nat} {p : Nat → List Nat} (cls : Nat → Nat) (hc : ∀ a, ∀ i ∈ p a, cls i = a) (hlt : ∀ a, ∀ i ∈ p a, i < n) (hlo : ∀ a, a = 0 ∨ a = 1 ∨ a = 3 → ∀ i ∈ p a, lo ≤ i) : Sep Wr lo n p :=
  ⟨fun a b _ hab i hi hb => hab ((hc a i hi).symm.trans (hc b i hb)), hlt, hlo⟩
abbrev parts (a0 a1 a2 a3 a4 : List Nat) : Nat → List Nat := fun a => if a = 0 then a0 else if a = 1 then a1 else if a = 2 then a2 else if a = 3 then a3 else if a = 4 then a4 else []
theorem parts_all {a0 a1 a2 a3 a4 : List Nat} {Q : Nat → Nat → Prop} (h0 : ∀ i ∈ a0, Q 0 i) (h1 : ∀ i ∈ a1, Q 1 i) (h2 : ∀ i ∈ a2, Q 2 i) (h3 : ∀ i ∈ a3, Q 3 i) (h4 : ∀ i ∈ a4, Q 4 i) : ∀ a, ∀ i ∈ parts a0 a1 a2 a3 a4 a, Q a i := by
  intro a i hi
  unfold parts at hi
  by_cases e0 : a = 0
  · subst e0; exact h0 i hi
  · rw [if_neg e0] at hi
    by_cases e1 : a = 1
    · subst e1; exact h1 i hi
    · rw [if_neg e1] at hi
      by_cases e2 : a = 2
      · subst e2; exact h2 i hi
      · rw [if_neg e2] at hi
        by_cases e3 : a = 3
        · subst e3; exact h3 i hi
        · rw [if_neg e3] at hi
          by_cases e4 : a = 4
          · subst e4; exact h4 i hi
          · rw [if_neg e4] at hi; simp at hi
theorem lp_start1 {w w1 w2 w3 w4 : World} {C L D M lc lp pb g o cap C2 : Nat} {vR vP : Value} {A : Option Addr} {H0 : List UInt8} {c : Nat} (hM : ModAt w1 C L lc lp pb 0 (1, 1, 1, 1) (fun _ => 1024)) (hb1 : Below w.heap.size w w1) (hC : w.heap.size ≤ C) (hL : w.heap.size ≤ L)
    (hD : ModAt w2 D M lc lp pb 0 (1, 1, 1, 1) (fun _ => 1024)) (hb2 : Below w1.heap.size w1 w2) (hDl : w1.heap.size ≤ D) (hMl : w1.heap.size ≤ M)
    (hE : EncAt w3 g o cap st0) (hb3 : Below w2.heap.size w2 w3) (hg : w2.heap.size ≤ g) (ho : w2.heap.size ≤ o)
    (hCo : CodAt w4 C2 w3.heap.size lc lp pb 0 (1, 1, 1, 1) (List.replicate (2180 + 768 * 2 ^ (lc + lp)) 1024) vR vP) (hb4 : Below w3.heap.size w3 w4) (hC2 : w3.heap.size ≤ C2)
    (hB : Bytes w A H0) (hA : ∀ a, A = some a → a.block < w.heap.size) (hc : H0.length ≤ c) (hm : c ≤ 9223372036854775807) :
    ∃ p, Lp w w4 (encIo g) C L lc lp pb 0 (1, 1, 1, 1) (fun _ => 1024, st0) [g, o] C2 w3.heap.size 0 (1, 1, 1, 1) (.slice A H0.length c) H0 (.slice none 0 0) [] (fun w => ModAt w D M lc lp pb 0 (1, 1, 1, 1) (fun _ => 1024)) (fun a => a ≠ 2) p ∧ p 4 = [D, M] := by
  have s1 := hb1.size
  have s2 := hb2.size
  have s3 := hb3.size
  have s4 := hb4.size
  have k1 := hM.clt
  have k2 := hM.llt
  have k3 := hD.clt
  have k4 := hD.llt
  have k5 := hE.lt
  have k6 := hCo.lt
  have k7 := fun g e => hCo.reps.lt g e
  have k8 := fun g e => hCo.ps.lt g e
  have b02 : Below w.heap.size w w2 := hb1.trans (hb2.mono s1)
  have b03 : Below w.heap.size w w3 := b02.trans (hb3.mono b02.size)
  have b04 : Below w.heap.size w w4 := b03.trans (hb4.mono b03.size)
  have b13 : Below w1.heap.size w1 w3 := hb2.trans (hb3.mono s2)
  have b24 : Below w2.heap.size w2 w4 := hb3.trans (hb4.mono s3)
  have i0 : ∀ i ∈ C :: L :: [g, o], (w.heap.size ≤ i ∧ i < w1.heap.size) ∨ (w2.heap.size ≤ i ∧ i < w3.heap.size) := by
    intro i hi
    simp only [List.mem_cons, List.not_mem_nil, or_false] at hi
    rcases hi with rfl | rfl | rfl | rfl
    · exact .inl ⟨hC, k1⟩
    · exact .inl ⟨hL, k2⟩
    · exact .inr ⟨hg, k5.1⟩
    · exact .inr ⟨ho, k5.2⟩
  have i1 : ∀ i ∈ C2 :: (vR.ownBlock.toList ++ vP.ownBlock.toList), w3.heap.size ≤ i ∧ i < w4.heap.size := by
    intro i hi
    simp only [List.mem_cons, List.mem_append, Option.mem_toList] at hi
    rcases hi with rfl | hi | hi
    · exact ⟨hC2, k6⟩
    · exact k7 i hi
    · exact k8 i hi
  have i2 : ∀ i ∈ (A.map (·.block)).toList, i < w.heap.size := by
    intro i hi
    simp only [Option.mem_toList, Option.map_eq_some_iff] at hi
    obtain ⟨a, e, rfl⟩ := hi
    exact hA a e
  have i4 : ∀ i ∈ [D, M], w1.heap.size ≤ i ∧ i < w2.heap.size := by
    intro i hi
    simp only [List.mem_cons, List.not_mem_nil, or_false] at hi
    rcases hi with rfl | rfl
    · exact ⟨hDl, k3⟩
    · exact ⟨hMl, k4⟩
  refine ⟨parts (C :: L :: [g, o]) (C2 :: (vR.ownBlock.toList ++ vP.ownBlock.toList)) (A.map (·.block)).toList [] [D, M], ⟨?_, rfl, ⟨_, vR, vP, hCo, ?_, ?_, ?_⟩, s4, ⟨A, c, rfl, hc, hm, hB.below b04, fun a e => ?_⟩, ⟨OwnS.nil _ _, fun g e => by cases e⟩, hD.keep (b24.block _ k3) (b24.block _ k4), fun v1 v2 h1 _ h2 => h1.keep (h2 D (by simp [parts])) (h2 M (by simp [parts])), ?_, ⟨by decide, by decide, by decide⟩, b04⟩, rfl⟩
  · exact (ms_start (hM.keep (hb2.block _ k1) (hb2.block _ k2)) hb3 hE hg ho).below hb4
  · show C2 ∈ C2 :: _; simp
  · intro g e; show g ∈ C2 :: _; simp [e]
  · intro g e; show g ∈ C2 :: _; simp [e]
  · show a.block ∈ (A.map (·.block)).toList
    rw [e]; simp
  · refine sep_of (fun i => if i < w.heap.size then 2 else if i < w1.heap.size then 0 else if i < w2.heap.size then 4 else if i < w3.heap.size then 0 else 1) (parts_all ?_ ?_ ?_ (by simp) ?_) (parts_all ?_ ?_ ?_ (by simp) ?_) ?_
    · intro i hi
      rcases i0 i hi with h | h
      · simp only [show ¬ i < w.heap.size by omega, show i < w1.heap.size by omega, if_true, if_false]
      · simp only [show ¬ i < w.heap.size by omega, show ¬ i < w1.heap.size by omega, show ¬ i < w2.heap.size by omega, show i < w3.heap.size by omega, if_true, if_false]
    · intro i hi
      have h := i1 i hi
      simp only [show ¬ i < w.heap.size by omega, show ¬ i < w1.heap.size by omega, show ¬ i < w2.heap.size by omega, show ¬ i < w3.heap.size by omega, if_false]
    · intro i hi
      simp only [show i < w.heap.size from i2 i hi, if_true]
    · intro i hi
      have h := i4 i hi
      simp only [show ¬ i < w.heap.size by omega, show ¬ i < w1.heap.size by omega, show i < w2.heap.size by omega, if_true, if_false]
    · intro i hi; rcases i0 i hi with h | h <;> omega
    · intro i hi; exact (i1 i hi).2
    · intro i hi; have := i2 i hi; omega
    · intro i hi; have := i4 i hi; omega
    · intro a ha i hi
      rcases ha with rfl | rfl | rfl
      · rcases i0 i hi with h | h <;> omega
      · have := i1 i hi; omega
      · simp [parts] at hi
set_option maxHeartbeats 1000000 in
theorem lp_start2 {w wr w1 w2 w3 : World} {io : Io} {C L D M lc lp pb st : Nat} {r : R4} {x : io.S} {X : List Nat} {C2 base st2 : Nat} {r2 : R4} {hv : Value} {H : List UInt8} {pv : Value} {ss : List Sy} {p : Nat → List Nat} {g o cap C3 : Nat} {vR vP : Value} {A : Option Addr} {H0 : List UInt8} {c : Nat} {LB : List UInt8} {s : Rd.St}
    (t : Lp w wr io C L lc lp pb st r x X C2 base st2 r2 hv H pv ss (fun w => ModAt w D M lc lp pb 0 (1, 1, 1, 1) (fun _ => 1024)) (fun a => a ≠ 2) p) (hp4 : p 4 = [D, M]) (hD : w.heap.size ≤ D) (hM : w.heap.size ≤ M) (hb1 : Below wr.heap.size wr w1)
    (hE : DecIs w2 g o cap LB s) (hb2 : Below w1.heap.size w1 w2) (hg : w1.heap.size ≤ g) (ho : w1.heap.size ≤ o)
    (hCo : CodAt w3 C3 w2.heap.size lc lp pb 0 (1, 1, 1, 1) (List.replicate (2180 + 768 * 2 ^ (lc + lp)) 1024) vR vP) (hb3 : Below w2.heap.size w2 w3) (hC3 : w2.heap.size ≤ C3)
    (hB : Bytes w A H0) (hA : ∀ a, A = some a → a.block < w.heap.size) (hc : H0.length ≤ c) (hm : c ≤ 9223372036854775807) :
    ∃ p', Lp w w3 (decIo g o cap LB) D M lc lp pb 0 (1, 1, 1, 1) (fun _ => 1024, s) [g, o] C3 w2.heap.size 0 (1, 1, 1, 1) (.slice A H0.length c) H0 pv ss (fun w => HistIn w hv H (p 2)) (fun a => a = 0 ∨ a = 1 ∨ a = 3) p' := by
  have s0 := t.below.size
  have s1 := hb1.size
  have s2 := hb2.size
  have s3 := hb3.size
  have hmod : ModAt wr D M lc lp pb 0 (1, 1, 1, 1) (fun _ => 1024) := t.rest
  have k1 := hmod.clt
  have k2 := hmod.llt
  obtain ⟨_, _, _, hT⟩ := id hE
  have k5 := hT.glt
  have k5' := hT.lt
  have k6 := hCo.lt
  have k7 := fun g e => hCo.reps.lt g e
  have k8 := fun g e => hCo.ps.lt g e
  have b2 : Below wr.heap.size wr w2 := hb1.trans (hb2.mono s1)
  have b3 : Below wr.heap.size wr w3 := b2.trans (hb3.mono b2.size)
  have b03 : Below w.heap.size w w3 := t.below.trans (b3.mono s0)
  have t3 := t.next b3
  have i0 : ∀ i ∈ D :: M :: [g, o], i ∈ p 4 ∨ (w1.heap.size ≤ i ∧ i < w2.heap.size) := by
    intro i hi
    simp only [List.mem_cons, List.not_mem_nil, or_false] at hi
    rw [hp4]
    rcases hi with rfl | rfl | rfl | rfl
    · exact .inl (by simp)
    · exact .inl (by simp)
    · exact .inr ⟨hg, k5⟩
    · exact .inr ⟨ho, k5'⟩
  have i1 : ∀ i ∈ C3 :: (vR.ownBlock.toList ++ vP.ownBlock.toList), w2.heap.size ≤ i ∧ i < w3.heap.size := by
    intro i hi
    simp only [List.mem_cons, List.mem_append, Option.mem_toList] at hi
    rcases hi with rfl | hi | hi
    · exact ⟨hC3, k6⟩
    · exact k7 i hi
    · exact k8 i hi
  have i2 : ∀ i ∈ (A.map (·.block)).toList, i < w.heap.size := by
    intro i hi
    simp only [Option.mem_toList, Option.map_eq_some_iff] at hi
    obtain ⟨a, e, rfl⟩ := hi
    exact hA a e
  have i3 : ∀ i ∈ pv.ownBlock.toList, i ∈ p 3 := by
    intro i hi
    simp only [Option.mem_toList] at hi
    exact t.puts.2 i hi
  have l4 : ∀ i ∈ p 4, w.heap.size ≤ i := by
    intro i hi
    rw [hp4] at hi
    simp only [List.mem_cons, List.not_mem_nil, or_false] at hi
    rcases hi with rfl | rfl
    · exact hD
    · exact hM
  refine ⟨parts (D :: M :: [g, o]) (C3 :: (vR.ownBlock.toList ++ vP.ownBlock.toList)) (A.map (·.block)).toList pv.ownBlock.toList (p 2), ⟨⟨hmod.keep (b3.block _ k1) (b3.block _ k2), ⟨rfl, ?_⟩, ?_, ?_⟩, rfl, ⟨_, vR, vP, hCo, ?_, ?_, ?_⟩, s3, ⟨A, c, rfl, hc, hm, hB.below b03, fun a e => ?_⟩, ⟨t3.puts.1, fun g e => ?_⟩, t3.hist, fun v1 v2 h1 h2 h3 => h1.keep h2 h3, ?_, ⟨by decide, by decide, by decide⟩, b03⟩⟩
  · exact hE.below hb3
  · simp; omega
  · simp; omega
  · show C3 ∈ C3 :: _; simp
  · intro g e; show g ∈ C3 :: _; simp [e]
  · intro g e; show g ∈ C3 :: _; simp [e]
  · show a.block ∈ (A.map (·.block)).toList
    rw [e]; simp
  · show g ∈ pv.ownBlock.toList
    rw [e]; simp
  · have q2 := t.sep.lt 2
    have q3 := t.sep.lt 3
    have q3' := t.sep.lo 3 (.inr (.inr rfl))
    have q4 := t.sep.lt 4
    have q42 := t.sep.dis 4 2 (by decide) (by decide)
    have q43 := t.sep.dis 4 3 (by decide) (by decide)
    have q32 := t.sep.dis 3 2 (by decide) (by decide)
    have cl := parts_all (Q := fun a i => (a = 0 ∧ (i ∈ p 4 ∨ (w1.heap.size ≤ i ∧ i < w2.heap.size))) ∨ (a = 1 ∧ w2.heap.size ≤ i ∧ i < w3.heap.size) ∨ (a = 2 ∧ i < w.heap.size) ∨ (a = 3 ∧ i ∈ p 3) ∨ (a = 4 ∧ i ∈ p 2)) (fun i hi => .inl ⟨rfl, i0 i hi⟩) (fun i hi => .inr (.inl ⟨rfl, i1 i hi⟩)) (fun i hi => .inr (.inr (.inl ⟨rfl, i2 i hi⟩))) (fun i hi => .inr (.inr (.inr (.inl ⟨rfl, i3 i hi⟩)))) (a4 := p 2) (fun i hi => .inr (.inr (.inr (.inr ⟨rfl, hi⟩))))
    refine ⟨fun a b hw hab i hi hb => ?_, fun a i hi => ?_, fun a ha i hi => ?_⟩
    · have f2 := q2 i
      have f3 := q3 i
      have f3' := q3' i
      have f4 := q4 i
      have f4' := l4 i
      have f42 := q42 i
      have f43 := q43 i
      have f32 := q32 i
      have h := cl a i hi
      have k := cl b i hb
      clear cl hi hb q2 q3 q3' q4 q42 q43 q32 l4 i0 i1 i2 i3
      rcases h with ⟨ra, h | h⟩ | ⟨ra, h⟩ | ⟨ra, h⟩ | ⟨ra, h⟩ | ⟨ra, h⟩ <;> rcases k with ⟨rb, k | k⟩ | ⟨rb, k⟩ | ⟨rb, k⟩ | ⟨rb, k⟩ | ⟨rb, k⟩
      all_goals first
        | exact absurd (ra.trans rb.symm) hab
        | exact f43 h k
        | exact f43 k h
        | exact f42 h k
        | exact f32 h k
        | (clear f2 f3 f3' f4 f4' f42 f43 f32; omega)
        | (have := f4 h; clear f2 f3 f3' f4 f4' f42 f43 f32; omega)
        | (have := f4 k; clear f2 f3 f3' f4 f4' f42 f43 f32; omega)
        | (have := f4' h; clear f2 f3 f3' f4 f4' f42 f43 f32; omega)
        | (have := f3 h; clear f2 f3 f3' f4 f4' f42 f43 f32; omega)
        | (have := f3 k; clear f2 f3 f3' f4 f4' f42 f43 f32; omega)
        | (have := f2 k; clear f2 f3 f3' f4 f4' f42 f43 f32; omega)
        | (have := f3' h; clear f2 f3 f3' f4 f4' f42 f43 f32; omega)
    · have f2 := q2 i
      have f3 := q3 i
      have f4 := q4 i
      rcases cl a i hi with ⟨_, h | h⟩ | ⟨_, h⟩ | ⟨_, h⟩ | ⟨_, h⟩ | ⟨_, h⟩
      · have := f4 h; omega
      · omega
      · omega
      · omega
      · have := f3 h; omega
      · have := f2 h; omega
    · have f3' := q3' i
      have f4' := l4 i
      rcases cl a i hi with ⟨_, h | h⟩ | ⟨_, h⟩ | ⟨_, h⟩ | ⟨_, h⟩ | ⟨_, h⟩
      · exact f4' h
      · omega
      · omega
      · omega
      · exact f3' h
      · omega
end Go.Proofs.Ytkckjjchfccdjaa

/- What laws of symbols share, with their memory. -/
namespace Go.Proofs.Ytkckjjchfccdjaa
set_option maxRecDepth 100000
open Go.RowKit

theorem HistIn.bytes {w : World} {A : Option Addr} {c : Nat} {H : List UInt8} {Y : List Nat} (h : HistIn w (.slice A H.length c) H Y) : Bytes w A H ∧ ∀ a, A = some a → a.block ∈ Y := by
  obtain ⟨A', c', e, _, _, hB, hA⟩ := h
  injection e with e1 _ e3
  subst e1
  exact ⟨hB, hA⟩
theorem becomes_sy2 {C base : Nat} {lc lp pb : Int} {st : Nat} {r : R4} {P : List Nat} {vR vP : Value} {s : Sy} {w : World} (hC : CodAt w C base lc lp pb (st : Nat) r P vR vP) (hbase : base ≤ w.heap.size) (hst : st < 12) (hk : s.k ≤ 2) (hq : s.r ≤ 3) :
    Calls Try.prog 44 #[PF C, s.val] w (BecDone2 C base lc lp pb (stateAfter (st : Nat) (s.k : Nat) (s.l : Nat)) (repsAfter r (s.k : Nat) (s.d : Nat) (s.r : Nat)) P vR vP w) := by
  obtain ⟨k, b, l, d, q⟩ := s
  simp only at hk hq
  rcases (by omega : k = 0 ∨ k = 1 ∨ k = 2) with rfl | rfl | rfl
  · exact becomes_lit2 C base lc lp pb (st : Nat) r P vR vP b _ _ _ w hC (by omega) (by omega)
  · exact becomes_match2 C base lc lp pb (st : Nat) r P vR vP b _ _ _ w hC hbase
  · exact becomes_rep2 C base lc lp pb (st : Nat) r P vR vP b _ _ q w hC hbase hq
end Go.Proofs.Ytkckjjchfccdjaa
