/- Several texts in one: MlSym, MlMem. -/
import Derived.Test.YtiodlhieaajcgaaRePutR
import Derived.Test.YtiodlhieaajcgaaMdPut
import Derived.Test.YtiodlhieaajcgaaCoGrow
/- A symbol that fits: what the model codes, and the reference's Put. -/
namespace Go.Proofs.Ytiodlhieaajcgaa
open Go.RowKit

theorem lit_state (st : Nat) (l : Int) : ((litState st : Nat) : Int) = stateAfter (st : Nat) 0 l := by
  unfold litState stateAfter
  rw [if_pos (show (0 : Int) = 0 from rfl)]
  by_cases h1 : st < 4
  · rw [if_pos h1, if_pos (show ((st : Nat) : Int) < 4 by omega)]; rfl
  · rw [if_neg h1, if_neg (show ¬ ((st : Nat) : Int) < 4 by omega)]
    by_cases h2 : st < 10
    · rw [if_pos h2, if_pos (show ((st : Nat) : Int) < 10 by omega)]; omega
    · rw [if_neg h2, if_neg (show ¬ ((st : Nat) : Int) < 10 by omega)]; omega
theorem match_state (st : Nat) (l : Int) : (((if st < 7 then 7 else 10 : Nat)) : Int) = stateAfter (st : Nat) 1 l := by
  unfold stateAfter
  rw [if_neg (show ¬ (1 : Int) = 0 by decide), if_pos (show (1 : Int) = 1 from rfl)]
  by_cases h1 : st < 7
  · rw [if_pos h1, if_neg (show ¬ (7 : Int) ≤ ((st : Nat) : Int) by omega)]; rfl
  · rw [if_neg h1, if_pos (show (7 : Int) ≤ ((st : Nat) : Int) by omega)]; rfl
theorem rept_state (st l : Nat) : (((if st < 7 then (if l = 1 then 9 else 8) else 11 : Nat)) : Int) = stateAfter (st : Nat) 2 (l : Nat) := by
  unfold stateAfter
  rw [if_neg (show ¬ (2 : Int) = 0 by decide), if_neg (show ¬ (2 : Int) = 1 by decide)]
  by_cases h1 : st < 7
  · rw [if_pos h1, if_neg (show ¬ (7 : Int) ≤ ((st : Nat) : Int) by omega)]
    by_cases h : l = 1
    · rw [if_pos h, if_pos (show ((l : Nat) : Int) = 1 by omega)]; rfl
    · rw [if_neg h, if_neg (show ¬ ((l : Nat) : Int) = 1 by omega)]; rfl
  · rw [if_neg h1, if_pos (show (7 : Int) ≤ ((st : Nat) : Int) by omega)]; rfl
theorem rept_reps (r : R4) (q : Nat) (hq : q ≤ 3) (d : Int) : frontR r q (r4 r.1 r.2.1 r.2.2.1 r.2.2.2 q) = repsAfter r 2 d (q : Nat) := by
  obtain ⟨a, b, c, e⟩ := r
  have h : q = 0 ∨ q = 1 ∨ q = 2 ∨ q = 3 := by omega
  rcases h with rfl | rfl | rfl | rfl <;> rfl
/-- The reference's Put of this symbol, from any memory that holds it. -/
def RPut (g lc lp pb : Nat) (H : List UInt8) (x : (encIo g).S) (r : R4) (st : Nat) (k : Int) (b : UInt8) (l d q : Int) (st' : Nat) (r' : R4) (z : (encIo g).S) : Prop :=
  ∀ (C base h N : Nat) (Y : List Nat) (w : World) (m : Nat) (A : Option Addr) (c : Nat), RE w C base h N (lc : Nat) (lp : Nat) (pb : Nat) (st : Nat) r x Y → base ≤ w.heap.size → N = 2180 + 768 * 2 ^ (lc + lp) → N ≤ 1000000 → (encIo g).ok x.2 (m + 82) → Bytes w A H → (∀ a, A = some a → a.block ∉ Y) → H.length ≤ c →
    Calls Try.prog 14 #[PF C, PF h, .slice A H.length c, SyV k b l d q] w (MAnd ((encIo g).ok z.2 m) (RDone (.tuple #[]) C base h N (lc : Nat) (lp : Nat) (pb : Nat) (st' : Nat) r' z Y w))
theorem fits_sym {g lc lp pb st : Nat} {r : R4} {x : (encIo g).S} {H : List UInt8} {k : Int} {b : UInt8} {l d q : Int} (hlc : lc ≤ 4) (hlp : lp ≤ 4) (hpb : pb ≤ 4) (hst : st < 12) (hr : rGood r) (hH : H.length ≤ 1000000000) (hf : fitsZ r (H.length : Int) k l d q = true) :
    ∃ s' st' r' z, Md.sym (encIo g) lc lp pb st r H k b l d q x = (s', st', r', z) ∧ r' = repsAfter r k d q ∧ ((st' : Nat) : Int) = stateAfter (st : Nat) k l ∧ s'.val = plainZ k b l d q ∧ RPut g lc lp pb H x r st k b l d q st' r' z := by
  rcases fitsZ_cases hf with rfl | ⟨rfl, h2, h3, h4, h5, h6⟩ | ⟨rfl, h0, h1, h4, h5⟩
  · obtain ⟨z, hz, hzz⟩ := sym_lit_enc g lc lp pb st r H b l d q x
    refine ⟨_, _, _, _, hz, rfl, lit_state st l, rfl, ?_⟩
    intro C base h N Y w m A c hM hbase hN hN2 hok hB hA hc
    have hp := reput_lit hM hlc hlp hpb hst hr.1.1 hr.2.1 (k := m) ((encIo g).le hok (by omega)) A H c hB hA hc hH hN hN2 b l d q hzz.symm
    rw [← lit_state] at hp
    exact hp
  · obtain ⟨l, rfl⟩ : ∃ n : Nat, l = n := ⟨l.toNat, by omega⟩
    obtain ⟨d, rfl⟩ : ∃ n : Nat, d = n := ⟨d.toNat, by omega⟩
    obtain ⟨z, hz, hzz⟩ := sym_match_enc g lc lp pb st r H b l d q (by omega) (by omega) (by omega) (by omega) x
    refine ⟨_, _, _, _, hz, rfl, match_state st l, rfl, ?_⟩
    intro C base h N Y w m A c hM hbase hN hN2 hok hB hA hc
    have hp := reput_match hM hpb hst hbase (k := m) hok A H c hc hH (by omega) hN2 b l d q (by omega) (by omega) (by omega) (by omega) hzz.symm
    rw [← match_state] at hp
    exact hp
  · obtain ⟨l, rfl⟩ : ∃ n : Nat, l = n := ⟨l.toNat, by omega⟩
    obtain ⟨q, rfl⟩ : ∃ n : Nat, q = n := ⟨q.toNat, by omega⟩
    obtain ⟨z, hz, hzz⟩ := sym_rept_enc g lc lp pb st r H b l q d (by omega) (by omega) (by omega) (by omega) x
    refine ⟨_, _, _, _, hz, rept_reps r q (by omega) d, rept_state st l, rfl, ?_⟩
    intro C base h N Y w m A c hM hbase hN hN2 hok hB hA hc
    have hp := reput_rept hM hpb hst hbase (k := m) ((encIo g).le hok (by omega)) A H c hc hH (by omega) hN2 b l q d (by omega) (by omega) (by omega) (by omega) hzz.symm
    rw [← rept_state, ← rept_reps r q (by omega) d] at hp
    exact hp
end Go.Proofs.Ytiodlhieaajcgaa

/- The laws' memory: the model's coder and the reference's, and the history, apart. -/
namespace Go.Proofs.Ytiodlhieaajcgaa
open Go.RowKit

theorem Only.below_of {X : List Nat} {w0 w w' : World} (hb : Below w0.heap.size w0 w) (h : Only X w w') (hX : ∀ i ∈ X, w0.heap.size ≤ i) : Below w0.heap.size w0 w' := hb.trans (h.below hb.size hX)
theorem RE.keep {C base h N : Nat} {lc lp pb st : Int} {r : R4} {x : (Nat → Nat) × Rc.St} {Y : List Nat} {w w1 : World} (hM : RE w C base h N lc lp pb st r x Y) (hb : ∀ i ∈ Y, w1.heap[i]? = w.heap[i]?) : RE w1 C base h N lc lp pb st r x Y := by
  obtain ⟨Pl, vR, gR, gP, capP, o, cap, hC, hgR, hE, hPl, hP, hY⟩ := hM.ex
  subst hY
  refine ⟨⟨Pl, vR, gR, gP, capP, o, cap, ⟨(hb C (by simp)).trans hC.box, hC.reps.keep fun g hg => ?_, hC.ps.keep fun g hg => ?_⟩, hgR, hE.keep2 (hb h (by simp)) (hb o (by simp)), hPl, hP, rfl⟩, hM.fair⟩
  · rw [hgR] at hg
    injection hg with hg
    subst hg
    exact hb gR (by simp)
  · injection hg with hg
    subst hg
    exact hb gP (by simp)
/-- The reference's coder as a row of cells. -/
theorem RE.cod {C base h N : Nat} {lc lp pb st : Int} {r : R4} {x : (Nat → Nat) × Rc.St} {Y : List Nat} {w : World} (hM : RE w C base h N lc lp pb st r x Y) : ∃ Pl vR vP, CodAt w C base lc lp pb st r Pl vR vP := by
  obtain ⟨Pl, vR, gR, gP, capP, o, cap, hC, _⟩ := hM.ex
  exact ⟨Pl, vR, _, hC⟩
structure Twin (w0 w : World) (g C L lc lp pb st : Nat) (r : R4) (x : (encIo g).S) (X : List Nat) (C2 base h N st2 : Nat) (r2 : R4) (x2 : (encIo g).S) (Y : List Nat) : Prop where
  ms : MS (encIo g) w C L lc lp pb st r x X
  re : RE w C2 base h N (lc : Nat) (lp : Nat) (pb : Nat) (st2 : Nat) r2 x2 Y
  dis : ∀ i ∈ Y, i ∉ C :: L :: X
  loX : ∀ i ∈ C :: L :: X, w0.heap.size ≤ i
  loY : ∀ i ∈ Y, w0.heap.size ≤ i
  below : Below w0.heap.size w0 w
  base : base ≤ w.heap.size
section
variable {w0 w w' : World} {g C L lc lp pb st : Nat} {r : R4} {x : (encIo g).S} {X : List Nat} {C2 base h N st2 : Nat} {r2 : R4} {x2 : (encIo g).S} {Y : List Nat}
theorem MS.ltall {io : Io} {x : io.S} (h : MS io w C L lc lp pb st r x X) : ∀ i ∈ C :: L :: X, i < w.heap.size := by
  intro i hi
  simp only [List.mem_cons] at hi
  rcases hi with rfl | rfl | hi
  · exact h.mod.clt
  · exact h.mod.llt
  · exact io.lt h.io i hi
theorem Twin.next (t : Twin w0 w g C L lc lp pb st r x X C2 base h N st2 r2 x2 Y) (hb : Below w.heap.size w w') : Twin w0 w' g C L lc lp pb st r x X C2 base h N st2 r2 x2 Y :=
  ⟨t.ms.below hb, t.re.below hb, t.dis, t.loX, t.loY, t.below.trans (hb.mono t.below.size), Nat.le_trans t.base hb.size⟩
theorem Twin.code {st' : Nat} {r' : R4} {x' : (encIo g).S} (t : Twin w0 w g C L lc lp pb st r x X C2 base h N st2 r2 x2 Y) (hw : Went (encIo g) C L lc lp pb st' r' x' X w w') :
    ∃ X', Twin w0 w' g C L lc lp pb st' r' x' X' C2 base h N st2 r2 x2 Y ∧ Only (C :: L :: X) w w' ∧ ∀ i ∈ X', i ∈ X ∨ w.heap.size ≤ i := by
  obtain ⟨X', hM, hon, hX⟩ := hw
  have hlt := t.re.lt
  refine ⟨X', ⟨hM, t.re.keep fun i hi => hon.block i (hlt i hi) (t.dis i hi), fun i hi hm => ?_, fun i hi => ?_, t.loY, Only.below_of t.below hon t.loX, Nat.le_trans t.base hon.size⟩, hon, hX⟩
  · simp only [List.mem_cons] at hm
    have hd := t.dis i hi
    simp only [List.mem_cons, not_or] at hd
    rcases hm with e | e | e
    · exact hd.1 e
    · exact hd.2.1 e
    · rcases hX i e with h | h
      · exact hd.2.2 h
      · have := hlt i hi; omega
  · simp only [List.mem_cons] at hi
    rcases hi with e | e | e
    · exact t.loX i (by simp [e])
    · exact t.loX i (by simp [e])
    · rcases hX i e with h | h
      · exact t.loX i (by simp [h])
      · exact Nat.le_trans t.below.size h
theorem Twin.ref {st' : Nat} {r' : R4} {x' : (encIo g).S} (t : Twin w0 w g C L lc lp pb st r x X C2 base h N st2 r2 x2 Y) (hw : WentR C2 base h N (lc : Nat) (lp : Nat) (pb : Nat) (st' : Nat) r' x' Y w w') :
    ∃ Y', Twin w0 w' g C L lc lp pb st r x X C2 base h N st' r' x' Y' ∧ Only Y w w' ∧ ∀ i ∈ Y', i ∈ Y ∨ w.heap.size ≤ i := by
  obtain ⟨Y', hM, hon, hY⟩ := hw
  have hlt := t.ms.ltall
  have hk : ∀ i ∈ C :: L :: X, w'.heap[i]? = w.heap[i]? := fun i hi => hon.block i (hlt i hi) (fun hy => t.dis i hy hi)
  refine ⟨Y', ⟨⟨t.ms.mod.keep (hk C (by simp)) (hk L (by simp)), (encIo g).keep t.ms.io hon.size (fun i hi => hk i (by simp [hi])), t.ms.outC, t.ms.outL⟩, hM, fun i hi hm => ?_, t.loX, fun i hi => ?_, Only.below_of t.below hon t.loY, Nat.le_trans t.base hon.size⟩, hon, hY⟩
  · rcases hY i hi with h | h
    · exact t.dis i h hm
    · have := hlt i hm; omega
  · rcases hY i hi with h | h
    · exact t.loY i h
    · exact Nat.le_trans t.below.size h
end
/-- A slice that reads as these bytes, outside certain blocks. -/
def HistAt (w : World) (v : Value) (H : List UInt8) (Z : List Nat) : Prop := ∃ A c, v = .slice A H.length c ∧ H.length ≤ c ∧ c ≤ 9223372036854775807 ∧ Bytes w A H ∧ ∀ a, A = some a → a.block < w.heap.size ∧ a.block ∉ Z
theorem HistAt.only {w w' : World} {v : Value} {H : List UInt8} {Z Z' X : List Nat} (h : HistAt w v H Z) (ho : Only X w w') (hX : ∀ i ∈ X, i ∈ Z) (hZ : ∀ i ∈ Z', i ∈ Z ∨ w.heap.size ≤ i) : HistAt w' v H Z' := by
  obtain ⟨A, c, rfl, hc, hm, hB, hA⟩ := h
  refine ⟨A, c, rfl, hc, hm, hB.keep ho.size (fun p hp hl => ?_), fun a e => ⟨Nat.lt_of_lt_of_le (hA a e).1 ho.size, fun hz => ?_⟩⟩
  · cases A with
    | none => cases hp
    | some a =>
      have e : a.block = p.block := by simpa using hp
      have hn := (hA a rfl).2
      unfold World.cell?
      rw [← e, ho.block a.block (hA a rfl).1 (fun hx => hn (hX _ hx))]
  · rcases hZ _ hz with h | h
    · exact (hA a e).2 h
    · have := (hA a e).1; omega
theorem HistAt.below {w w' : World} {v : Value} {H : List UInt8} {Z : List Nat} (h : HistAt w v H Z) (hb : Below w.heap.size w w') : HistAt w' v H Z := h.only (X := []) (Only.of_below hb) (by simp) (fun _ hi => .inl hi)
/-- What Grow makes lies outside whatever was there. -/
theorem hist_of_own {w w' : World} {v : Value} {H : List UInt8} {Z : List Nat} (h : Own w.heap.size w' v H) (hZ : ∀ i ∈ Z, i < w.heap.size) : HistAt w' v H Z := by
  have hf := h.from_base
  obtain ⟨A, c, rfl, hc, hm, hB⟩ := h.read
  refine ⟨A, c, rfl, hc, hm, hB, fun a e => ?_⟩
  subst e
  have h1 := hf a.block rfl
  exact ⟨h1.2, fun hz => by have := hZ _ hz; omega⟩
/-- A symbol as the law holds it. -/
structure SyI where
  k : Int
  b : UInt8
  l : Int
  d : Int
  r : Int
def Syms (w : World) (A : Option Addr) (l : List SyI) : Prop := l = [] ∨ ∃ b off, A = some ⟨b, off, none⟩ ∧ b < w.heap.size ∧ ∀ i (h : i < l.length), w.cell? ⟨b, off + i * 5, none⟩ = some (.int .i64 l[i].k) ∧ w.cell? ⟨b, off + i * 5 + 1, none⟩ = some (.int .u8 (l[i].b.toNat : Nat)) ∧ w.cell? ⟨b, off + i * 5 + 2, none⟩ = some (.int .i64 l[i].l) ∧ w.cell? ⟨b, off + i * 5 + 3, none⟩ = some (.int .i64 l[i].d) ∧ w.cell? ⟨b, off + i * 5 + 4, none⟩ = some (.int .i64 l[i].r)
theorem stateAfter_lt {st : Nat} {k l : Int} {st' : Nat} (hst : st < 12) (h : ((st' : Nat) : Int) = stateAfter (st : Nat) k l) : st' < 12 := by
  unfold stateAfter at h
  split at h
  · split at h
    · omega
    · split at h <;> omega
  · split at h
    · split at h <;> omega
    · split at h
      · omega
      · split at h <;> omega
end Go.Proofs.Ytiodlhieaajcgaa
