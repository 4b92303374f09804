/- Several texts in one: FdMath, FdPure, FdScan, FdRange, FdKeys, FdMem, FdFours, FdChain, FdFour, FdSearch. -/
import Derived.Test.YtklkboplkobhgaaGreatVals
import Derived.Test.YtklkboplkobhgaaGreatSy0
import Derived.RangeFuncNested
import Derived.RangeFuncBound
import Derived.RangeFuncCalls
import Derived.RangeFuncLeaves
import Derived.RangeFuncKeeps
import Derived.Sort.BigQuietIn
import Derived.Test.YtklkboplkobhgaaGreatRows
import Derived.Test.YtklkboplkobhgaaGreatBase
import Derived.Test.YtklkboplkobhgaaGreatLift
import Derived.WideKeyArr
import Derived.WideKeyEntry
import Derived.Maps.OwnSet
import Derived.Lib.MinMax
import Derived.Maps.OwnOps
/- How long bytes are alike. -/
namespace Go.Proofs.YtklkboplkobhgaaGreat
set_option maxRecDepth 100000

/-- How long the bytes from p on are like those from q on, at most L. -/
def eqLen (d : List UInt8) : Nat → Nat → Nat → Nat
  | _, _, 0 => 0
  | p, q, L + 1 => if d.getD p 0 = d.getD q 0 then eqLen d (p + 1) (q + 1) L + 1 else 0
structure IsLen (d : List UInt8) (p q L n : Nat) : Prop where
  le : n ≤ L
  eq : ∀ i, i < n → d.getD (p + i) 0 = d.getD (q + i) 0
  stop : n = L ∨ d.getD (p + n) 0 ≠ d.getD (q + n) 0
theorem IsLen.unique {d : List UInt8} {p q L n m : Nat} (h : IsLen d p q L n) (k : IsLen d p q L m) : n = m := by
  rcases Nat.lt_trichotomy n m with hlt | e | hlt
  · rcases h.stop with e | e
    · have := k.le; omega
    · exact absurd (k.eq n hlt) e
  · exact e
  · rcases k.stop with e | e
    · have := h.le; omega
    · exact absurd (h.eq m hlt) e
theorem isLen_eqLen (d : List UInt8) : ∀ (L p q : Nat), IsLen d p q L (eqLen d p q L)
  | 0, p, q => ⟨Nat.le_refl _, (fun i h => absurd h (Nat.not_lt_zero i)), .inl rfl⟩
  | L + 1, p, q => by
    unfold eqLen
    by_cases h : d.getD p 0 = d.getD q 0
    · rw [if_pos h]
      have ih := isLen_eqLen d L (p + 1) (q + 1)
      refine ⟨by have := ih.le; omega, fun i hi => ?_, ?_⟩
      · cases i with
        | zero => exact h
        | succ i =>
          have := ih.eq i (by omega)
          rw [show p + 1 + i = p + (i + 1) by omega, show q + 1 + i = q + (i + 1) by omega] at this
          exact this
      · rcases ih.stop with e | e
        · exact .inl (by omega)
        · rw [show p + 1 + eqLen d (p + 1) (q + 1) L = p + (eqLen d (p + 1) (q + 1) L + 1) by omega, show q + 1 + eqLen d (p + 1) (q + 1) L = q + (eqLen d (p + 1) (q + 1) L + 1) by omega] at e
          exact .inr e
    · rw [if_neg h]
      exact ⟨Nat.zero_le _, (fun i hi => absurd hi (Nat.not_lt_zero i)), .inr h⟩
theorem IsLen.is {d : List UInt8} {p q L n : Nat} (h : IsLen d p q L n) : n = eqLen d p q L := h.unique (isLen_eqLen d L p q)
/-- What may be looked at: at most `most`, at most to the end. -/
def lim (d : List UInt8) (p : Nat) (most : Int) : Nat := (min most ((d.length : Int) - (p : Int))).toNat
theorem lim_le (d : List UInt8) (p : Nat) (most : Int) (h : p ≤ d.length) : p + lim d p most ≤ d.length := by
  unfold lim; omega
theorem lim_lt {d : List UInt8} {p n : Nat} {most : Int} : n < lim d p most ↔ (n : Int) < most ∧ (p : Int) + (n : Int) < (d.length : Int) := by
  unfold lim; omega
end Go.Proofs.YtklkboplkobhgaaGreat

/- The best of all distances: the mathematics. -/
namespace Go.Proofs.YtklkboplkobhgaaGreat
set_option maxRecDepth 100000
open Go.RowKit

/-- The best of the distances 1 to D: the first of the greatest. -/
def bestTo (f : Nat → Nat) : Nat → Nat × Nat
  | 0 => (0, 0)
  | D + 1 => if (bestTo f D).1 < f (D + 1) then (f (D + 1), D + 1) else bestTo f D
/-- What P9.1 says of a place that there is. -/
def bestOf (l : List UInt8) (dict nice : Int) (p : Nat) (most : Int) : Nat × Nat :=
  if (bestTo (fun k => eqLen l p (p - k) (lim l p (min nice most))) (min (p : Int) dict).toNat).1 < 2 then (0, 0) else bestTo (fun k => eqLen l p (p - k) (lim l p (min nice most))) (min (p : Int) dict).toNat
/-- The best of all distances, told without an order: the greatest length, the least distance that has it. -/
structure BestIs (f : Nat → Nat) (D n k : Nat) : Prop where
  le : ∀ j, 1 ≤ j → j ≤ D → f j ≤ n
  lt : ∀ j, 1 ≤ j → j < k → f j < n
  at_ : (n = 0 ∧ k = 0) ∨ (1 ≤ k ∧ k ≤ D ∧ f k = n ∧ 0 < n)
theorem bestTo_is (f : Nat → Nat) : ∀ D, BestIs f D (bestTo f D).1 (bestTo f D).2
  | 0 => ⟨fun j h1 h2 => by omega, fun j h1 h2 => by simp [bestTo] at h2, .inl ⟨rfl, rfl⟩⟩
  | D + 1 => by
    have ih := bestTo_is f D
    unfold bestTo
    by_cases h : (bestTo f D).1 < f (D + 1)
    · rw [if_pos h]
      refine ⟨fun j h1 h2 => ?_, fun j h1 h2 => ?_, .inr ⟨by simp, by simp, rfl, by show 0 < f (D + 1); omega⟩⟩
      · show f j ≤ f (D + 1)
        rcases Nat.lt_or_ge j (D + 1) with h3 | h3
        · have := ih.le j h1 (by omega); omega
        · obtain rfl : j = D + 1 := by omega
          exact Nat.le_refl _
      · have h2 : j < D + 1 := h2
        show f j < f (D + 1)
        have := ih.le j h1 (by omega); omega
    · rw [if_neg h]
      refine ⟨fun j h1 h2 => ?_, ih.lt, ?_⟩
      · rcases Nat.lt_or_ge j (D + 1) with h3 | h3
        · exact ih.le j h1 (by omega)
        · obtain rfl : j = D + 1 := by omega
          omega
      · rcases ih.at_ with e | ⟨e1, e2, e3⟩
        · exact .inl e
        · exact .inr ⟨e1, by omega, e3⟩
theorem BestIs.unique {f : Nat → Nat} {D n k n' k' : Nat} (h : BestIs f D n k) (h' : BestIs f D n' k') : n = n' ∧ k = k' := by
  have hn : n = n' := by
    rcases h.at_ with ⟨e1, e2⟩ | ⟨e1, e2, e3, e4⟩
    · rcases h'.at_ with ⟨e1', _⟩ | ⟨a1, a2, a3, a4⟩
      · omega
      · have := h.le k' a1 a2; omega
    · rcases h'.at_ with ⟨a1, _⟩ | ⟨a1, a2, a3, a4⟩
      · have := h'.le k e1 e2; omega
      · have b1 := h.le k' a1 a2
        have b2 := h'.le k e1 e2
        omega
  refine ⟨hn, ?_⟩
  subst hn
  rcases h.at_ with ⟨e1, e2⟩ | ⟨e1, e2, e3, e4⟩
  · rcases h'.at_ with ⟨_, a2⟩ | ⟨a1, a2, a3, a4⟩
    · omega
    · omega
  · rcases h'.at_ with ⟨a1, _⟩ | ⟨a1, a2, a3, a4⟩
    · omega
    · rcases Nat.lt_trichotomy k k' with hlt | e | hlt
      · have := h'.lt k e1 hlt; omega
      · exact e
      · have := h.lt k' a1 hlt; omega
end Go.Proofs.YtklkboplkobhgaaGreat

/- What longest comes to, over a rising list of distances. -/
namespace Go.Proofs.YtklkboplkobhgaaGreat
set_option maxRecDepth 100000

/-- The best of the distances in S. -/
structure BestOn (S : Nat → Prop) (f : Nat → Nat) (n k : Nat) : Prop where
  le : ∀ j, S j → f j ≤ n
  lt : ∀ j, S j → j < k → f j < n
  at_ : (n = 0 ∧ k = 0) ∨ (S k ∧ f k = n ∧ 0 < n)
theorem BestOn.none (f : Nat → Nat) : BestOn (fun _ => False) f 0 0 := ⟨fun _ h => h.elim, fun _ h => h.elim, .inl ⟨rfl, rfl⟩⟩
theorem BestOn.iff {S T : Nat → Prop} {f : Nat → Nat} {n k : Nat} (h : BestOn S f n k) (e : ∀ j, T j ↔ S j) : BestOn T f n k :=
  ⟨fun j hj => h.le j ((e j).1 hj), fun j hj => h.lt j ((e j).1 hj), h.at_.imp id fun ⟨a, b⟩ => ⟨(e k).2 a, b⟩⟩
/-- One distance more that isn't better. -/
theorem BestOn.skip {S : Nat → Prop} {f : Nat → Nat} {n k j : Nat} (h : BestOn S f n k) (hj : ∀ s, S s → s < j) (hf : f j ≤ n) : BestOn (fun x => S x ∨ x = j) f n k := by
  refine ⟨?_, ?_, ?_⟩
  · rintro x (hx | rfl)
    · exact h.le x hx
    · exact hf
  · rintro x (hx | rfl) hlt
    · exact h.lt x hx hlt
    · rcases h.at_ with ⟨_, e⟩ | ⟨e, _⟩
      · omega
      · have := hj k e; omega
  · rcases h.at_ with e | ⟨e, e2⟩
    · exact .inl e
    · exact .inr ⟨.inl e, e2⟩
/-- One that is. -/
theorem BestOn.take {S : Nat → Prop} {f : Nat → Nat} {n k j : Nat} (h : BestOn S f n k) (hj : ∀ s, S s → s < j) (hf : n < f j) : BestOn (fun x => S x ∨ x = j) f (f j) j := by
  refine ⟨?_, ?_, .inr ⟨.inr rfl, rfl, by omega⟩⟩
  · rintro x (hx | rfl)
    · have := h.le x hx; omega
    · exact Nat.le_refl _
  · rintro x (hx | rfl) hlt
    · have := h.le x hx; omega
    · omega
/-- No more than the limit. -/
theorem eqLen_le (d : List UInt8) (p q L : Nat) : eqLen d p q L ≤ L := (isLen_eqLen d L p q).le
/-- It cannot be longer where the next byte differs. -/
theorem eqLen_cut {d : List UInt8} {p q L n : Nat} (h : d.getD (q + n) 0 ≠ d.getD (p + n) 0) : eqLen d p q L ≤ n := by
  rcases Nat.lt_or_ge n (eqLen d p q L) with hl | hl
  · exact absurd ((isLen_eqLen d L p q).eq n hl).symm h
  · exact hl
/-- Of all distances that count, only those of S are long: the best of S is the best of all, where it is long enough. -/
theorem BestOn.all {S : Nat → Prop} {f : Nat → Nat} {n k D m : Nat} (h : BestOn S f n k) (hS : ∀ j, S j → 1 ≤ j ∧ j ≤ D) (hm : ∀ j, 1 ≤ j → j ≤ D → m ≤ f j → S j) (hn : m ≤ n) (h0 : 0 < m) : BestIs f D n k := by
  refine ⟨fun j h1 h2 => ?_, fun j h1 h2 => ?_, ?_⟩
  · rcases Nat.lt_or_ge (f j) m with h3 | h3
    · omega
    · exact h.le j (hm j h1 h2 h3)
  · rcases h.at_ with ⟨e, _⟩ | ⟨e, _⟩
    · omega
    · have hk := (hS k e).2
      rcases Nat.lt_or_ge (f j) m with h3 | h3
      · omega
      · exact h.lt j (hm j h1 (by omega) h3) h2
  · rcases h.at_ with e | ⟨e, e2, e3⟩
    · omega
    · exact .inr ⟨(hS k e).1, (hS k e).2, e2, e3⟩
/-- A lesser limit tells alike, where none is as long. -/
theorem eqLen_limit {d : List UInt8} {p q L M : Nat} (hM : M ≤ L) : eqLen d p q M = min (eqLen d p q L) M := by
  have h := isLen_eqLen d L p q
  refine (IsLen.is (n := min (eqLen d p q L) M) ⟨Nat.min_le_right _ _, fun i hi => h.eq i (by omega), ?_⟩).symm
  rcases Nat.lt_or_ge (eqLen d p q L) M with hl | hl
  · rw [Nat.min_eq_left (by omega)]
    rcases h.stop with e | e
    · omega
    · exact .inr e
  · exact .inl (by omega)
end Go.Proofs.YtklkboplkobhgaaGreat

/- A range over a function that yields a list of places: the law for a caller whose body may break off; a region of reads in a round. -/
namespace Go.Proofs.YtklkboplkobhgaaGreat
set_option maxRecDepth 100000
open Go Go.RowKit

variable {F : Fence} {n : Nat} {P : Program}

/-- The contract of an iterator that only reads: it yields the list's numbers, and no more where it was told. -/
def SeqOf (F : Fence) (n : Nat) (P : Program) (g : Nat) (lb : Array Value) (L : List Nat) (w : World) : Prop :=
  ∀ (l : Nat) (J : List Nat → World → Prop) (Jx : World → Prop) (W : World), (∀ s W, J s W → Below w.heap.size w W) → (∀ s W m, J s W → J s (W.drewN m)) → (∀ W m, Jx W → Jx (W.drewN m)) →
    (∀ pre x t W1, L = pre ++ x :: t → J pre W1 → YieldAt F (n - 1) P l #[.int .i64 (x : Nat)] W1 fun e W' =>
      (e = .returned (.bool true) ∧ J (pre ++ [x]) W') ∨ (e = .returned (.bool false) ∧ Jx W')) →
    J [] W →
    CallsIn F n P g (#[.func (.yield l) #[] #[]] ++ lb) W fun e W' => (∃ v, e = .returned v) ∧ (J L W' ∨ Jx W')
theorem SeqOf.below {g : Nat} {lb : Array Value} {L : List Nat} {w w' : World} (h : SeqOf F n P g lb L w) (hb : Below w.heap.size w w') : SeqOf F n P g lb L w' :=
  fun l J Jx W hB hJ hJx hY h0 => h l J Jx W (fun s W hs => hb.trans ((hB s W hs).mono hb.size)) hJ hJx hY h0

/-- How the body may be left: off its end, or by a jump. -/
def partPost (I : List Nat → World → Prop) (Ix : Code → World → Prop) (xs : List Nat) (W : World) : Exit → Act → World → Prop
  | .normal, _, W' => KeepsOthers W W' ∧ I xs W'
  | .exit id, _, W' => KeepsOthers W W' ∧ Ix (.exit id) W'
  | _, _, _ => False

theorem wpIn_range_of {g : Operand} {ps : Array Tmp} {assign body : Code} {Q : Exit → Act → World → Prop} {a : Act} {w : World}
    (hro : F.round = none) (h1 : 1 ≤ n) {gf : Nat} {lb : Array Value} (hg : a.eval g = .func (.func gf) #[] lb) (hFg : F.fn gf) (eg : ∀ args w, (callFunc gf args).run P w = .ok (.enter gf args) w)
    {L : List Nat} {w0 : World} (hseq : SeqOf F (n - 1) P gf lb L w0) (hps : ps.size = 1)
    (I : List Nat → World → Prop) (Ix : Code → World → Prop)
    (hIa : ∀ s W o, I s W → I s (W.alloc o)) (hIp : ∀ s W l o o', I s W → w.heap.size ≤ l → W.heap[l]? = some o → o.isCells = false → I s (W.putObj l o')) (hIb : ∀ s W, I s W → Below w0.heap.size w0 W) (hId : ∀ s W m, I s W → I s (W.drewN m))
    (hXp : ∀ c W l o o', Ix c W → w.heap.size ≤ l → W.heap[l]? = some o → o.isCells = false → Ix c (W.putObj l o')) (hXd : ∀ c W m, Ix c W → Ix c (W.drewN m)) (h0 : I [] w) (a₁ : Nat → Act)
    (hassign : ∀ (l : Nat) (x : Nat) (W : World) (K : Act → World → Prop), K (a₁ x) W →
      assign.wpIn (F.inRound l) (n - 1 - 1) P (Exit.then K (fun _ _ _ => False)) { tmps := (ps.zip #[.int .i64 (x : Nat)]).foldl (fun t (p, v) => t.setIfInBounds p v) a.tmps, defers := [] } W)
    (hbody : ∀ (l : Nat) (pre : List Nat) (x : Nat) (t : List Nat) (W : World), L = pre ++ x :: t → I pre W → body.wpIn (F.inRound l) (n - 1 - 1) P (partPost I Ix (pre ++ [x]) W) (a₁ x) W)
    (hdone : ∀ (D : Nat) (W : World), w.heap.size ≤ D → I L W → W.heap[D]? = some (.deferred (some [])) → Q .normal { a with defers := { target := .collected D, args := #[] } :: a.defers } W)
    (hstop : ∀ (D : Nat) (c : Code) (W : World), w.heap.size ≤ D → Ix c W → W.heap[D]? = some (.deferred (some [])) → c.wpIn F n P Q { a with defers := { target := .collected D, args := #[] } :: a.defers } W) :
    (Code.rangeFunc g ps assign body).wpIn F n P Q a w := by
  refine wpIn_rangeFunc fun fn hfn => ?_
  rw [hro]
  obtain ⟨rec, hrec⟩ : ∃ rec : LoopState → Option Code → Loop, rec = fun st pe => { state := st, pending := pe, fn, tmps := a.tmps, params := ps, assign, body, defers := w.heap.size } := ⟨_, rfl⟩
  obtain ⟨W1, hW1⟩ : ∃ W1, (w.alloc (.deferred (some []))).alloc (.loop (rec .ready none)) = W1 := ⟨_, rfl⟩
  have hL1 : W1.heap[w.heap.size + 1]? = some (.loop (rec .ready none)) := by
    rw [← hW1]; have := World.alloc_heap_new (w.alloc (.deferred (some []))) (.loop (rec .ready none)); rwa [World.size_alloc] at this
  have hK1 : W1.heap[w.heap.size]? = some (.deferred (some [])) := by
    rw [← hW1]; exact (Below.heap_alloc _ _ _ (by simp)).trans (World.alloc_heap_new w _)
  have hI1 : I [] W1 := by rw [← hW1]; exact hIa _ _ _ (hIa _ _ _ h0)
  refine ⟨w.heap.size + 1, [{ target := .collected w.heap.size, args := #[] }], W1, { target := .fn (.func gf) lb, args := #[.func (.yield (w.heap.size + 1)) #[] #[]] }, W1, gf,
    #[.func (.yield (w.heap.size + 1)) #[] #[]] ++ lb, W1, ?_, ?_, ?_, ?_, fun _ => h1, ?_⟩
  · rw [← hW1, hrec]; exact run_enterLoop_outer _ _ _ _ _
  · simp only [resolve, hg]
    simp [go_sem]
  · intro f' hf'; simp [Target.leads] at hf'; subst hf'; exact hFg
  · simp [invoke, go_sem, eg]
  · refine (hseq (w.heap.size + 1)
      (fun pre W => I pre W ∧ W.heap[w.heap.size + 1]? = some (.loop (rec .ready none)) ∧ W.heap[w.heap.size]? = some (.deferred (some [])))
      (fun W => ∃ c, Ix c W ∧ W.heap[w.heap.size + 1]? = some (.loop (rec .done (some c))) ∧ W.heap[w.heap.size]? = some (.deferred (some [])))
      W1 (fun s W hs => hIb s W hs.1) (fun s W m hs => ⟨hId s W m hs.1, hs.2.1, hs.2.2⟩) (fun W m hs => by obtain ⟨c, h⟩ := hs; exact ⟨c, hXd c W m h.1, h.2.1, h.2.2⟩) ?_ ⟨hI1, hL1, hK1⟩).mono ?_
    · rintro pre x t W hsplit ⟨hi, hl, hk⟩
      have hlt : w.heap.size + 1 < W.heap.size := (Array.getElem?_eq_some_iff.1 hl).1
      have hy := run_yield (P := P) (args := #[.int .i64 (x : Nat)]) hl (by rw [hrec]; simp [hps])
      rw [hrec] at hy
      refine ⟨fn, _, assign, body, hy, roundIn_of_wpIn hfn (hassign _ x W _ ⟨_, run_beginRound hl (by rw [hrec]), ?_⟩)⟩
      have hl2 : (W.putObj (w.heap.size + 1) (.loop { rec .ready none with state := .busy })).heap[w.heap.size + 1]? = some (.loop { rec .ready none with state := .busy }) := World.putObj_heap_same hlt
      have hk2 : (W.putObj (w.heap.size + 1) (.loop { rec .ready none with state := .busy })).heap[w.heap.size]? = some (.deferred (some [])) := (World.putObj_heap_other (by omega)).trans hk
      refine wpIn_mono (hbody _ pre x t _ hsplit (hIp _ _ _ _ _ hi (by omega) hl rfl)) ?_
      have fin : ∀ (jump : Option Code) (W3 : World), KeepsOthers (W.putObj (w.heap.size + 1) (.loop { rec .ready none with state := .busy })) W3 →
          (Instr.endRound (w.heap.size + 1) jump).run P W3 = .ok (.bool jump.isNone) (W3.putObj (w.heap.size + 1) (.loop (rec (if jump.isNone then .ready else .done) jump))) ∧
          W3.heap[w.heap.size + 1]? = some (.loop { rec .ready none with state := .busy }) ∧
          (W3.putObj (w.heap.size + 1) (.loop (rec (if jump.isNone then .ready else .done) jump))).heap[w.heap.size + 1]? = some (.loop (rec (if jump.isNone then .ready else .done) jump)) ∧
          (W3.putObj (w.heap.size + 1) (.loop (rec (if jump.isNone then .ready else .done) jump))).heap[w.heap.size]? = some (.deferred (some [])) := fun jump W3 hk3 => by
        have hl3 := hk3.same _ _ hl2 rfl
        have := run_endRound (P := P) jump hl3
        rw [hrec] at this ⊢
        exact ⟨this, by rw [hrec] at hl3; exact hl3, World.putObj_heap_same (Array.getElem?_eq_some_iff.1 hl3).1, (World.putObj_heap_other (by omega)).trans (hk3.same _ _ hk2 rfl)⟩
      rintro e a3 W3 hp
      cases e with
      | normal =>
        obtain ⟨hk3, hi3⟩ := hp
        obtain ⟨hr, hl3, hl4, hk4⟩ := fin none W3 hk3
        exact ⟨_, _, hr, .inl ⟨rfl, hIp _ _ _ _ _ hi3 (by omega) hl3 rfl, hl4, hk4⟩⟩
      | exit id =>
        obtain ⟨hk3, hi3⟩ := hp
        obtain ⟨hr, hl3, hl4, hk4⟩ := fin (some (.exit id)) W3 hk3
        exact ⟨_, _, hr, .inr ⟨rfl, .exit id, hXp _ _ _ _ _ hi3 (by omega) hl3 rfl, hl4, hk4⟩⟩
      | ret => exact hp.elim
      | goto t => exact hp.elim
      | panic ch => exact hp.elim
      | outgrown => exact hp.elim
    · rintro e W2 ⟨⟨v, rfl⟩, ⟨hi, hl, hk⟩ | ⟨c, hi, hl, hk⟩⟩
      · exact ⟨none, _, by have := run_endLoop (P := P) hl (by rw [hrec]; simp); rw [hrec] at this; exact this, hdone _ _ (Nat.le_refl _) (hIp _ _ _ _ _ hi (by omega) hl rfl) ((World.putObj_heap_other (by omega)).trans hk)⟩
      · exact ⟨some c, _, by have := run_endLoop (P := P) hl (by rw [hrec]; simp); rw [hrec] at this; exact this, hstop _ c _ (Nat.le_refl _) (hXp _ _ _ _ _ hi (by omega) hl rfl) ((World.putObj_heap_other (by omega)).trans hk)⟩

/-- A region that holds no defer statement runs in a round as outside. -/
def noDefer : List Oper → Bool
  | [] => true
  | o :: l => (match o.op with | .defer _ => false | _ => true) && noDefer l
theorem noDefer_mem : ∀ {l : List Oper}, noDefer l = true → ∀ o ∈ l, ∀ c, o.op ≠ .defer c
  | [], _, o, ho => by cases ho
  | o' :: l, h, o, ho => by
    rw [noDefer, Bool.and_eq_true] at h
    intro c e
    rcases List.mem_cons.1 ho with rfl | ho
    · have := h.1; rw [e] at this; cases this
    · exact noDefer_mem h.2 o ho c e
theorem wpAnyIn_round {md : Region.Mode} {l : List Oper} {Q : Exit → Act → World → Prop} {r : Nat} (hro : F.round = none) (hd : noDefer l = true) : ∀ (fuel : Nat) (listed : Array Bool) (a : Act) (w : World), wpAnyIn F n P md l.toArray Q fuel listed a w → wpAnyIn (F.inRound r) n P md l.toArray Q fuel listed a w := by
  intro fuel
  induction fuel with
  | zero => exact fun listed a w h => h
  | succ fuel ih =>
    intro listed a w h
    refine ⟨h.1, fun i hi => ?_⟩
    have hs := h.2 i hi
    unfold wpOpIn at hs ⊢
    split
    · rename_i ho; simp only [ho] at hs; exact ih _ _ _ hs
    · rename_i o ho
      simp only [ho] at hs
      have hm : o ∈ l := by
        have : l[i]? = some o := by simpa using ho
        exact List.mem_of_getElem? this
      split
      · rename_i hw
        simp only [hw, if_true] at hs
        refine Oper.wpIn_mono (K := wpAnyIn F n P md l.toArray Q fuel (listed.setIfInBounds i true)) (fun a w h => ih _ _ _ h) ?_
        unfold Oper.wpIn at hs ⊢
        rw [hro, Oper.semAt_none] at hs
        rw [Fence.inRound_round, Oper.semAt_some _ _ _ (noDefer_mem hd o hm)]
        exact hs
      · rename_i hw
        rw [if_neg hw] at hs
        exact ⟨hs.1, ih _ _ _ hs.2⟩
theorem wpIn_quiet_round {id r : Nat} {Q : Exit → Act → World → Prop} {a : Act} {w : World} {l : List Oper} (hro : F.round = none) (hm : P.follows .mixedOrders = true) (hB : Region.lexB .any l.toArray = true) (hd : noDefer l = true)
    (h : wpQuietIn F n P l.toArray (fun w' => ∃ n, w' = w.drewN n) (fun a' => ∀ w', (∃ n, w' = w.drewN n) → Q .normal a' w') l a) : (Code.region id l.toArray true).wpIn (F.inRound r) n P Q a w := by
  have hB2 := hB
  simp only [Region.lexB, Bool.and_eq_true] at hB2
  refine wpIn_region_any hm (wpAnyIn_round hro hd _ _ _ _ (wpAnyIn_of_quiet (C := fun w' => ∃ n, w' = w.drewN n) (Q := fun a' => ∀ w', (∃ n, w' = w.drewN n) → Q .normal a' w') hro (fun _ w' hw' h => h w' hw') _ _ _ _ ⟨1, rfl⟩ ?_))
  have := wpAnyQIn_lex (F := F) (n := n) (C := fun w' => ∃ n, w' = w.drewN n) (md := .any) hB2.1 l 0 (Array.replicate l.toArray.size false) a (by simp) (by simpa using hB2.2) h
  simpa using this
end Go.Proofs.YtklkboplkobhgaaGreat

/- Keys of the finder's maps: two bytes, four bytes. -/
namespace Go.Proofs.YtklkboplkobhgaaGreat
set_option maxRecDepth 100000
open Go.Maps Go.WideMaps

theorem arr2 : ArrKey Tryz.prog 98 5 2 := ⟨Tryz.underlying98, by kernel_rfl, cells8, by kernel_rfl⟩
theorem arr4 : ArrKey Tryz.prog 100 5 4 := ⟨Tryz.underlying100, by kernel_rfl, cells8, by kernel_rfl⟩
theorem keyed2 : Keyed Tryz.prog 98 := Keyed.of_law arr2.law
theorem keyed4 : Keyed Tryz.prog 100 := Keyed.of_law arr4.law
def pairV (a b : UInt8) : Value := .agg #[.int .u8 (a.toNat : Nat), .int .u8 (b.toNat : Nat)]
def fourV (a b c d : UInt8) : Value := .agg #[.int .u8 (a.toNat : Nat), .int .u8 (b.toNat : Nat), .int .u8 (c.toNat : Nat), .int .u8 (d.toNat : Nat)]
theorem pairV_inj {a b a' b' : UInt8} (h : pairV a b = pairV a' b') : a = a' ∧ b = b' := by
  unfold pairV at h
  simp at h
  exact ⟨UInt8.toNat_inj.1 (by omega), UInt8.toNat_inj.1 (by omega)⟩
theorem fourV_inj {a b c d a' b' c' d' : UInt8} (h : fourV a b c d = fourV a' b' c' d') : a = a' ∧ b = b' ∧ c = c' ∧ d = d' := by
  unfold fourV at h
  simp at h
  exact ⟨UInt8.toNat_inj.1 (by omega), UInt8.toNat_inj.1 (by omega), UInt8.toNat_inj.1 (by omega), UInt8.toNat_inj.1 (by omega)⟩
theorem wfByte (a : UInt8) : (Lit.int .u8 (a.toNat : Nat)).wf = true := by
  have h := a.toNat_lt
  have e1 : IntKind.u8.min = 0 := rfl
  have e2 : IntKind.u8.max = 255 := rfl
  simp [Lit.wf, e1, e2]; omega
theorem kt2 : Tryz.prog.keyType 98 = true := by kernel_rfl
theorem kt4 : Tryz.prog.keyType 100 = true := by kernel_rfl
theorem size0 : ∃ m, Tryz.prog.types.size = m + 1 := ⟨Tryz.prog.types.size - 1, by kernel_rfl⟩
set_option maxRecDepth 100000 in
theorem key2 (a b : UInt8) : ∃ l, keyOf Tryz.prog 98 (pairV a b) = some l := by
  obtain ⟨m, hm⟩ := size0
  unfold keyOf pairV
  rw [Tryz.underlying98, hm]
  simp [kt2, Value.formed, Tryz.underlying98, arr2.size, Program.keyLits, Tryz.underlying5, cells8, Value.cells, wfByte, List.range_succ, List.mapM_cons]
set_option maxRecDepth 100000 in
theorem key4 (a b c d : UInt8) : ∃ l, keyOf Tryz.prog 100 (fourV a b c d) = some l := by
  obtain ⟨m, hm⟩ := size0
  unfold keyOf fourV
  rw [Tryz.underlying100, hm]
  simp [kt4, Value.formed, Tryz.underlying100, arr4.size, Program.keyLits, Tryz.underlying5, cells8, Value.cells, wfByte, List.range_succ, List.mapM_cons]
/-- What a map's key reads as. -/
noncomputable def lit2 (a b : UInt8) : Lit := Classical.choose (key2 a b)
theorem lit2_spec (a b : UInt8) : keyOf Tryz.prog 98 (pairV a b) = some (lit2 a b) := Classical.choose_spec (key2 a b)
set_option maxRecDepth 100000 in
theorem lit2_inj {a b a' b' : UInt8} (h : lit2 a b = lit2 a' b') : a = a' ∧ b = b' := pairV_inj (keyed2.inj (lit2_spec a b) (h ▸ lit2_spec a' b'))
noncomputable def lit4 (a b c d : UInt8) : Lit := Classical.choose (key4 a b c d)
theorem lit4_spec (a b c d : UInt8) : keyOf Tryz.prog 100 (fourV a b c d) = some (lit4 a b c d) := Classical.choose_spec (key4 a b c d)
set_option maxRecDepth 100000 in
theorem lit4_inj {a b c d a' b' c' d' : UInt8} (h : lit4 a b c d = lit4 a' b' c' d') : a = a' ∧ b = b' ∧ c = c' ∧ d = d' := fourV_inj (keyed4.inj (lit4_spec a b c d) (h ▸ lit4_spec a' b' c' d'))
end Go.Proofs.YtklkboplkobhgaaGreat

/- A finder in memory; its same, has, Like; the reference's Back. -/
namespace Go.Proofs.YtklkboplkobhgaaGreat
set_option maxRecDepth 100000
open Go.RowKit

structure FinderAt (w : World) (F : Nat) (A : Option Addr) (c : Nat) (d : List UInt8) (dict nice : Int) (mp : Nat) (v4 : Value) : Prop where
  box : w.heap[F]? = some (.cells [.slice A d.length c, .int .i64 dict, .int .i64 nice, .map (some mp), v4].toArray 57 (0, 0))
  bytes : Bytes w A d
  cap : d.length ≤ c
  small : d.length ≤ 100000
theorem FinderAt.lt {w : World} {F : Nat} {A : Option Addr} {c : Nat} {d : List UInt8} {dict nice : Int} {mp : Nat} {v4 : Value} (h : FinderAt w F A c d dict nice mp v4) : F < w.heap.size := (Array.getElem?_eq_some_iff.1 h.box).1
theorem FinderAt.below {w w' : World} {F : Nat} {A : Option Addr} {c : Nat} {d : List UInt8} {dict nice : Int} {mp : Nat} {v4 : Value} (h : FinderAt w F A c d dict nice mp v4) (hb : Below w.heap.size w w') : FinderAt w' F A c d dict nice mp v4 :=
  ⟨(hb.block _ h.lt).trans h.box, h.bytes.below hb, h.cap, h.small⟩
theorem FinderAt.drewN {w : World} {F : Nat} {A : Option Addr} {c : Nat} {d : List UInt8} {dict nice : Int} {mp : Nat} {v4 : Value} (h : FinderAt w F A c d dict nice mp v4) (m : Nat) : FinderAt (w.drewN m) F A c d dict nice mp v4 := h.below (below_drewN (Below.refl _ _) m)
theorem FinderAt.cells {w : World} {F : Nat} {A : Option Addr} {c : Nat} {d : List UInt8} {dict nice : Int} {mp : Nat} {v4 : Value} (h : FinderAt w F A c d dict nice mp v4) : w.cell? ⟨F, 0, none⟩ = some (.slice A d.length c) ∧ w.cell? ⟨F, 1, none⟩ = some (.int .i64 dict) ∧ w.cell? ⟨F, 2, none⟩ = some (.int .i64 nice) ∧ w.cell? ⟨F, 3, none⟩ = some (.map (some mp)) ∧ w.cell? ⟨F, 4, none⟩ = some v4 := by
  refine ⟨?_, ?_, ?_, ?_, ?_⟩ <;> (rw [cell_of_row w F _ _ _ _ h.box]; rfl)
set_option maxRecDepth 100000 in
set_option maxHeartbeats 2000000 in
theorem same_any (F : Nat) (A : Option Addr) (c : Nat) (d : List UInt8) (dict nice : Int) (mp : Nat) (v4 : Value) (p q : Nat) (lm : Int) (w : World) (hF : FinderAt w F A c d dict nice mp v4) (hp : p + lm.toNat ≤ d.length) (hq : q ≤ p) :
    Calls Tryz.prog 74 #[PF F, .int .i64 (p : Nat), .int .i64 (q : Nat), .int .i64 lm] w fun e w' => e = .returned (.int .i64 (eqLen d p q lm.toNat : Nat)) ∧ ∃ m, w' = w.drewN m := by
  obtain ⟨c0, _, _, _, _⟩ := hF.cells
  have HAD := Lib.hid (fun (h : 0 < d.length) => hF.bytes.addr h)
  have hli : (d.length : Int) ≤ 100000 := by have := hF.small; omega
  have hci : (d.length : Int) ≤ (c : Int) := by have := hF.cap; omega
  obtain ⟨L, hL⟩ : ∃ L, lm.toNat = L := ⟨_, rfl⟩
  rw [hL] at hp ⊢
  have HL : Hid (∀ n : Nat, n < L ↔ (n : Int) < lm) := Lib.hid (fun n => by omega)
  have HU := Lib.hid (fun n (h : IsLen d p q L n) => h.is)
  obtain ⟨E, hE⟩ : ∃ E, eqLen d p q L = E := ⟨_, rfl⟩
  rw [hE] at HU ⊢
  have HPQ := Lib.hid (And.intro hp hq)
  clear hF hL hE hp hq
  go_enter Tryz.func74, Tryz.ntmps74
  go_wp2_with fail
  go_loopw [9] (fun i wr => ∃ (n m : Nat), n ≤ L ∧ i = .int .i64 (n : Nat) ∧ Hid (∀ i, i < n → d.getD (p + i) 0 = d.getD (q + i) 0) ∧ wr = w.drewN m) (fun i _ => L - (intOf i).toNat)
  case atStart => exact ⟨0, 0, by omega, rfl, Lib.hid (fun i h => by cases h), rfl⟩
  case round =>
    obtain ⟨n, m, hn, rfl, HEQ, rfl⟩ := hrel
    by_cases hnl : n < L
    · have h1 := (HL.out n).1 hnl
      obtain ⟨b, off, rfl, _, hat⟩ := HAD.out (by have := HPQ.out; omega)
      obtain ⟨x, hx⟩ : ∃ x : Nat, p + n = x := ⟨_, rfl⟩
      have hxi : (p : Int) + (n : Int) = (x : Int) := by omega
      obtain ⟨y, hy⟩ : ∃ y : Nat, q + n = y := ⟨_, rfl⟩
      have hyi : (q : Int) + (n : Int) = (y : Int) := by omega
      have hxl : (x : Int) < (d.length : Int) := by have := HPQ.out; omega
      have hyl : (y : Int) < (d.length : Int) := by have := HPQ.out; omega
      have cx := hat x (by omega)
      have cy := hat y (by omega)
      have HX : Hid (p + n = x ∧ q + n = y) := Lib.hid ⟨hx, hy⟩
      have hni : (n : Int) ≤ 100000 := by omega
      have e1 := getD_of (d := d) (i := x) (by omega)
      have e2 := getD_of (d := d) (i := y) (by omega)
      generalize d[x]'(by omega) = u at *
      generalize d[y]'(by omega) = v at *
      have HE12 := Lib.hid (And.intro e1 e2)
      clear e1 e2 hx hy hat HAD
      by_cases huv : u = v
      · have huv' : ((u.toNat : Int) == (v.toNat : Int)) = true := by rw [huv]; simp
        have HQ : Hid (∀ i, i < n + 1 → d.getD (p + i) 0 = d.getD (q + i) 0) := Lib.hid (fun i hi => by
          rcases Nat.lt_or_ge i n with h | h
          · exact HEQ.out i h
          · obtain rfl : i = n := by omega
            rw [HX.out.1, HX.out.2, HE12.out.1, HE12.out.2, huv])
        clear huv
        go_wp2_with fail
        go_quiet (fail)
        go_wp2_with fail
        exact ⟨⟨n + 1, _, by omega, by go_num, HQ, rfl⟩, by simp [intOf]; omega⟩
      · have huv' : ((u.toNat : Int) == (v.toNat : Int)) = false := by
          rw [beq_eq_false_iff_ne]; intro h; exact huv (UInt8.toNat_inj.1 (by omega))
        have HN : Hid (n = E) := Lib.hid (HU.out n ⟨by omega, HEQ.out, .inr (by rw [HX.out.1, HX.out.2, HE12.out.1, HE12.out.2]; exact huv)⟩)
        clear huv
        go_wp2_with fail
        go_quiet (fail)
        go_wp2_with fail
        go_ret
        exact ⟨by rw [HN.out]; rfl, _, World.drewN_drewN ..⟩
    · obtain rfl : n = L := by omega
      have HN : Hid (n = E) := Lib.hid (HU.out n ⟨by omega, HEQ.out, .inl rfl⟩)
      have h1 : decide ((n : Int) < lm) = false := decide_eq_false (mt (HL.out n).2 hnl)
      clear HAD hnl hn
      go_wp2_with fail
      go_quiet (fail)
      go_wp2_with fail
      go_ret
      exact ⟨by rw [HN.out]; rfl, _, World.drewN_drewN ..⟩
/-- Is there a place? -/
def hasB (d : List UInt8) (place : Int) : Bool := decide (0 ≤ place) && decide (place < (d.length : Int))
set_option maxRecDepth 100000 in
theorem has_any (F : Nat) (A : Option Addr) (c : Nat) (d : List UInt8) (dict nice : Int) (mp : Nat) (v4 : Value) (place : Int) (w : World) (hF : FinderAt w F A c d dict nice mp v4) :
    Calls Tryz.prog 70 #[PF F, .int .i64 place] w fun e w' => e = .returned (.bool (hasB d place)) ∧ w = w' := by
  obtain ⟨c0, _, _, _, _⟩ := hF.cells
  clear hF
  unfold hasB
  by_cases h1 : 0 ≤ place
  · by_cases h2 : place < (d.length : Int)
    · have e : (decide (0 ≤ place) && decide (place < (d.length : Int))) = true := by simp [h1, h2]
      rw [e]
      clear e
      go_enter Tryz.func70, Tryz.ntmps70
      go_wp2_with fail
      go_ret
      exact ⟨rfl, rfl⟩
    · have e : (decide (0 ≤ place) && decide (place < (d.length : Int))) = false := by simp [h2]
      rw [e]
      clear e
      go_enter Tryz.func70, Tryz.ntmps70
      go_wp2_with fail
      go_ret
      exact ⟨rfl, rfl⟩
  · have e : (decide (0 ≤ place) && decide (place < (d.length : Int))) = false := by simp [h1]
    rw [e]
    clear e
    go_enter Tryz.func70, Tryz.ntmps70
    go_wp2_with fail
    go_ret
    exact ⟨rfl, rfl⟩
set_option maxRecDepth 100000 in
theorem has_nil (place : Int) (w : World) : Calls Tryz.prog 70 #[.pointer none, .int .i64 place] w fun e w' => e = .returned (.bool false) ∧ w = w' := by
  go_enter Tryz.func70, Tryz.ntmps70
  go_wp2_with fail
  go_ret
  exact ⟨rfl, rfl⟩
theorem run_min3 (w : World) (ts : Array TypeId) (t : TypeId) (x y z : Int) : (Builtin.min_ ts t #[.int .i64 x, .int .i64 y, .int .i64 z]).run Tryz.prog w = .ok (.int .i64 (min (min x y) z)) w := by
  have e : ∀ x y : Int, (if y < x then y else x) = min x y := fun x y => by
    rw [Int.min_def]
    split <;> split <;> omega
  simp [Builtin.min_, Builtin.min2, e]
/-- What P9.2 says. -/
def backOf (d : List UInt8) (dict place dist most : Int) : Nat :=
  if 0 ≤ place ∧ place < (d.length : Int) ∧ 1 ≤ dist ∧ dist ≤ place ∧ dist ≤ dict then eqLen d place.toNat (place.toNat - dist.toNat) (lim d place.toNat (min 273 most)) else 0
set_option maxRecDepth 100000 in
set_option maxHeartbeats 1500000 in
theorem Like_any (F : Nat) (A : Option Addr) (c : Nat) (d : List UInt8) (dict nice : Int) (mp : Nat) (v4 : Value) (place dist most : Int) (w : World) (hF : FinderAt w F A c d dict nice mp v4) :
    Calls Tryz.prog 54 #[PF F, .int .i64 place, .int .i64 dist, .int .i64 most] w fun e w' => e = .returned (.int .i64 (backOf d dict place dist most : Nat)) ∧ ∃ m, w' = w.drewN m := by
  obtain ⟨c0, c1, _, _, _⟩ := hF.cells
  have HH := Lib.hid (has_any F A c d dict nice mp v4 place w hF)
  have hli : (d.length : Int) ≤ 100000 := by have := hF.small; omega
  have hln : d.length ≤ 100000 := hF.small
  unfold backOf
  by_cases h1 : 0 ≤ place ∧ place < (d.length : Int)
  case neg =>
    have hh : hasB d place = false := by
      unfold hasB
      cases h : (decide (0 ≤ place) && decide (place < (d.length : Int))) with
      | false => rfl
      | true => simp at h; exact absurd h h1
    rw [hh] at HH
    rw [if_neg (fun h => h1 ⟨h.1, h.2.1⟩)]
    clear h1 hh hF
    go_enter Tryz.func54, Tryz.ntmps54
    go_wp2_with fail
    refine HH.out.mono ?_
    rintro e w1 ⟨rfl, rfl⟩
    go_wp2_with fail
    go_ret
    exact ⟨rfl, 0, rfl⟩
  have hh : hasB d place = true := by unfold hasB; simp [h1.1, h1.2]
  rw [hh] at HH
  by_cases h2 : 1 ≤ dist
  case neg =>
    rw [if_neg (fun h => h2 h.2.2.1)]
    have b2 : decide (dist < 1) = true := decide_eq_true (by omega)
    clear h1 hh hF h2
    go_enter Tryz.func54, Tryz.ntmps54
    go_wp2_with fail
    refine HH.out.mono ?_
    rintro e w1 ⟨rfl, rfl⟩
    go_wp2_with fail
    go_ret
    exact ⟨rfl, 0, rfl⟩
  have b2 : decide (dist < 1) = false := decide_eq_false (by omega)
  obtain ⟨MN, hmn⟩ : ∃ MN : Int, min place dict = MN := ⟨_, rfl⟩
  by_cases h3 : dist ≤ place ∧ dist ≤ dict
  case neg =>
    rw [if_neg (fun h => h3 ⟨h.2.2.2.1, h.2.2.2.2⟩)]
    have b3 : decide (MN < dist) = true := decide_eq_true (by omega)
    clear h1 hh hF h2 h3
    go_enter Tryz.func54, Tryz.ntmps54
    go_wp2_with fail
    refine HH.out.mono ?_
    rintro e w1 ⟨rfl, rfl⟩
    go_wp2_with fail
    go_ret
    exact ⟨rfl, 0, rfl⟩
  have b3 : decide (MN < dist) = false := decide_eq_false (by omega)
  rw [if_pos ⟨h1.1, h1.2, h2, h3.1, h3.2⟩]
  obtain ⟨p, hp⟩ : ∃ p : Nat, place = (p : Int) := ⟨place.toNat, by omega⟩
  obtain ⟨k, hk⟩ : ∃ k : Nat, dist = (k : Int) := ⟨dist.toNat, by omega⟩
  subst hp; subst hk
  simp only [Int.toNat_natCast]
  obtain ⟨q, hq⟩ : ∃ q : Nat, p - k = q := ⟨_, rfl⟩
  have hqi : (p : Int) - (k : Int) = (q : Int) := by omega
  have hpi : (p : Int) ≤ 100000 := by omega
  have hp2 : (p : Int) < (d.length : Int) := h1.2
  have hki : (k : Int) ≤ (p : Int) := h3.1
  obtain ⟨E, hE⟩ : ∃ E, eqLen d p (p - k) (lim d p (min 273 most)) = E := ⟨_, rfl⟩
  rw [hE]
  obtain ⟨X, hX⟩ : ∃ X : Int, (d.length : Int) - (p : Int) = X := ⟨_, rfl⟩
  have key : ∀ M : Int, min (min 273 most) X = M → Hid (Calls Tryz.prog 74 #[PF F, .int .i64 (p : Nat), .int .i64 (q : Nat), .int .i64 M] w fun e w' => e = .returned (.int .i64 (E : Nat)) ∧ ∃ m, w' = w.drewN m) := fun M hM => Lib.hid (by
    have h := same_any F A c d dict nice mp v4 p q M w hF (by omega) (by omega)
    have e : eqLen d p q M.toNat = E := by rw [← hE, hq]; congr 1; unfold lim; rw [hX, hM]
    rw [e] at h; exact h)
  clear h1 hh hF h2 h3 hq hE
  by_cases g1 : most < 273
  · by_cases g2 : X < most
    · have HSA := key X (by omega)
      clear key
      go_enter Tryz.func54, Tryz.ntmps54
      go_wp2_with fail
      refine HH.out.mono ?_
      rintro e w1 ⟨rfl, rfl⟩
      go_wp2_with fail
      refine HSA.out.mono ?_
      rintro e w1 ⟨rfl, m, rfl⟩
      go_wp2_with fail
      go_ret
      exact ⟨rfl, _, rfl⟩
    · have HSA := key most (by omega)
      clear key
      go_enter Tryz.func54, Tryz.ntmps54
      go_wp2_with fail
      refine HH.out.mono ?_
      rintro e w1 ⟨rfl, rfl⟩
      go_wp2_with fail
      refine HSA.out.mono ?_
      rintro e w1 ⟨rfl, m, rfl⟩
      go_wp2_with fail
      go_ret
      exact ⟨rfl, _, rfl⟩
  · by_cases g2 : X < 273
    · have HSA := key X (by omega)
      clear key
      go_enter Tryz.func54, Tryz.ntmps54
      go_wp2_with fail
      refine HH.out.mono ?_
      rintro e w1 ⟨rfl, rfl⟩
      go_wp2_with fail
      refine HSA.out.mono ?_
      rintro e w1 ⟨rfl, m, rfl⟩
      go_wp2_with fail
      go_ret
      exact ⟨rfl, _, rfl⟩
    · have HSA := key 273 (by omega)
      clear key
      go_enter Tryz.func54, Tryz.ntmps54
      go_wp2_with fail
      refine HH.out.mono ?_
      rintro e w1 ⟨rfl, rfl⟩
      go_wp2_with fail
      refine HSA.out.mono ?_
      rintro e w1 ⟨rfl, m, rfl⟩
      go_wp2_with fail
      go_ret
      exact ⟨rfl, _, rfl⟩
end Go.Proofs.YtklkboplkobhgaaGreat

/- The finder's list of places with the same four bytes before. -/
namespace Go.Proofs.YtklkboplkobhgaaGreat
set_option maxRecDepth 100000
open Go.RowKit Go.Maps

theorem heap_of_full32 {w : World} {base n : Nat} {t : TypeId} {g : Nat} {xs : List Value} (h : w.ownsRow base t 1 (.slice (some ⟨g, 0, none⟩) n n) n xs) : w.heap[g]? = some (.cells xs.toArray t (0, 0)) := by
  obtain ⟨hl, ⟨h, _⟩ | ⟨g', cap, cur, e, _, hg, _, _, hsz, ht⟩⟩ := h
  · cases h
  · injection e with e1 _ e3
    injection e1 with e1
    injection e1 with e1
    subst e1; subst e3
    rw [Nat.mul_one] at hl hsz ht
    have : cur.toList = xs := by rw [← ht, List.take_of_length_le (by simp; omega)]
    rw [hg, ← this]
theorem madeI32 (n : Nat) : (madeCells (Value.int .i32 0).cells (n * 1)).toList = List.replicate n (Value.int .i32 0) := by
  rw [Nat.mul_one, show (Value.int .i32 0).cells = #[Value.int .i32 0] from rfl, toList_madeCells_one]
theorem infoI32 : (Tryz.prog.info? 21).map (fun i => (i.zero, i.size, i.bytes)) = some (some (.int .i32 0), 1, 4) := by kernel_rfl
theorem wpList_make_i32 {ops : Array Oper} {rest : List Oper} {o : Oper} {a : Act} {Q : Exit → Act → World → Prop} (hgd : o.guard = none) (x y : Operand) (ho : o.op = .makeSlice 55 x y)
    (n : Nat) (w : World) (hx : a.eval x = .int .i64 (n : Nat)) (hy : a.eval y = .int .i64 (n : Nat)) (hn : n ≤ 1000000)
    (h : ∀ w', w'.heap[w.heap.size]? = some (.cells (List.replicate n (Value.int .i32 0)).toArray 21 (0, 0)) → w.grownBy w' none → wpList Tryz.prog ops Q rest (a.put o.dst (.slice (some ⟨w.heap.size, 0, none⟩) n n)) w') : wpList Tryz.prog ops Q (o :: rest) a w := by
  refine wpList_plain hgd fun K hK => ?_
  obtain ⟨i, hi, hz0, hz1, hz2⟩ := info_parts infoI32
  obtain ⟨w', hr, h1, h2⟩ := run_make_full (P := Tryz.prog) w w.heap.size 55 21 i (.int .i32 0) 1 Tryz.underlying55 hi hz0 hz1 .i64 .i64 n (by rw [hz2]; omega) (by unfold maxLen; omega) (Nat.le_refl _)
  rw [madeI32] at h1
  unfold Oper.wp execOp
  simp only [ho, hx, hy, Sem.run_bind, Sem.run_pure, Result.andThen_ok, hr]
  exact hK _ _ (h w' (heap_of_full32 h1) h2)
/-- The last place before i with the same four bytes; below 0: none. -/
def four (d : List UInt8) (i : Nat) : UInt8 × UInt8 × UInt8 × UInt8 := (d.getD i 0, d.getD (i + 1) 0, d.getD (i + 2) 0, d.getD (i + 3) 0)
/-- The last place below n where four bytes x stand. -/
def lastAt (d : List UInt8) (x : UInt8 × UInt8 × UInt8 × UInt8) : Nat → Int
  | 0 => -1
  | n + 1 => if four d n = x then (n : Int) else lastAt d x n
theorem lastAt_bounds (d : List UInt8) (x : UInt8 × UInt8 × UInt8 × UInt8) : ∀ n, -1 ≤ lastAt d x n ∧ lastAt d x n < (n : Int) ∨ n = 0 ∧ lastAt d x n = -1
  | 0 => .inr ⟨rfl, rfl⟩
  | n + 1 => by
    unfold lastAt
    split
    · left; omega
    · rcases lastAt_bounds d x n with h | ⟨h, e⟩
      · left; omega
      · left; rw [e]; omega
def prevs (d : List UInt8) (n : Nat) : List Value := (List.range n).map fun i => Value.int .i32 (lastAt d (four d i) i)
/-- The map of the last places. -/
def LastAt (w : World) (b : Nat) (d : List UInt8) (n : Nat) : Prop :=
  ∃ D : DataW Unit, w.ownsMap Tryz.prog 100 (plainElem Tryz.prog 21) b n D ∧
    ∀ x : UInt8 × UInt8 × UInt8 × UInt8, (Maps.has D (lit4 x.1 x.2.1 x.2.2.1 x.2.2.2) = true ↔ 0 ≤ lastAt d x n) ∧ (0 ≤ lastAt d x n → D.atKey (lit4 x.1 x.2.1 x.2.2.1 x.2.2.2) (.lit (.int .i32 0)) = .lit (.int .i32 (lastAt d x n)))
theorem LastAt.keep {w w' : World} {b n : Nat} {d : List UInt8} (h : LastAt w b d n) (hb : w'.heap[b]? = w.heap[b]?) : LastAt w' b d n := by
  obtain ⟨D, ⟨es, clock, h1, r⟩, h2⟩ := h
  exact ⟨D, ⟨es, clock, hb.trans h1, r⟩, h2⟩
theorem LastAt.lt {w : World} {b n : Nat} {d : List UInt8} (h : LastAt w b d n) : b < w.heap.size := by
  obtain ⟨D, h1, _⟩ := h
  exact h1.lt
theorem LastAt.made (w : World) (d : List UInt8) : LastAt (w.alloc (.map #[] 0)) w.heap.size d 0 :=
  ⟨_, World.ownsMap_made w Tryz.prog _ _, fun x => ⟨by simp [Maps.has, lastAt], fun h => by simp [lastAt] at h⟩⟩
noncomputable abbrev litOf (x : UInt8 × UInt8 × UInt8 × UInt8) : Lit := lit4 x.1 x.2.1 x.2.2.1 x.2.2.2
abbrev keyOf4 (x : UInt8 × UInt8 × UInt8 × UInt8) : Value := fourV x.1 x.2.1 x.2.2.1 x.2.2.2
theorem litOf_inj {x y : UInt8 × UInt8 × UInt8 × UInt8} (h : litOf x = litOf y) : x = y := by
  obtain ⟨h1, h2, h3, h4⟩ := lit4_inj h
  obtain ⟨a, b, c, d⟩ := x
  obtain ⟨a', b', c', d'⟩ := y
  simp_all
theorem zeroI32 (w : World) : (zeroValue 21).run Tryz.prog w = .ok (.int .i32 0) w := by
  first | rfl | simp [zeroValue]
theorem wf32 {z : Int} (h0 : -1 ≤ z) (h1 : z ≤ 1000000) : (Lit.int .i32 z).wf = true := by
  have e1 : IntKind.i32.min = -2147483648 := rfl
  have e2 : IntKind.i32.max = 2147483647 := rfl
  simp [Lit.wf, e1, e2]; omega
/-- What the look-up gives. -/
def seen (d : List UInt8) (x : UInt8 × UInt8 × UInt8 × UInt8) (n : Nat) : Bool := decide (0 ≤ lastAt d x n)
theorem LastAt.look {w : World} {b n : Nat} {d : List UInt8} (h : LastAt w b d n) (x : UInt8 × UInt8 × UInt8 × UInt8) : ∃ c : Int, (Instr.lookup 99 (.map (some b)) (keyOf4 x) true).run Tryz.prog w = .ok (.tuple #[.int .i32 c, .bool (seen d x n)]) w ∧ (seen d x n = true → c = lastAt d x n) := by
  obtain ⟨D, h1, h2⟩ := h
  obtain ⟨v, ps, hr, hv⟩ := h1.look_ok keyed4 Tryz.underlying99 (zeroI32 w) (plainElem_int (H := Unit) Tryz.underlying21 (wf32 (by omega) (by omega))) (lit4_spec x.1 x.2.1 x.2.2.1 x.2.2.2)
  obtain ⟨c, rfl, hc, _⟩ := plainElem_int_inv Tryz.underlying21 hv
  have e : Maps.has D (lit4 x.1 x.2.1 x.2.2.1 x.2.2.2) = seen d x n := by
    rw [Bool.eq_iff_iff, (h2 x).1]; simp [seen]
  refine ⟨c, by rw [hr, e], fun hs => ?_⟩
  have hs : 0 ≤ lastAt d x n := by simpa [seen] using hs
  have e2 := (h2 x).2 hs
  have e3 := congrArg Prod.fst hc
  simp only at e3
  rw [e2] at e3
  injection e3 with e3
  injection e3 with _ e3
  exact e3.symm
theorem LastAt.put {w : World} {b n : Nat} {d : List UInt8} (h : LastAt w b d n) (hn : n ≤ 100000) : ∃ w', (Instr.mapUpdate 99 (.map (some b)) (keyOf4 (four d n)) (.int .i32 (n : Nat))).run Tryz.prog w = .ok () w' ∧ LastAt w' b d (n + 1) ∧ w.mapTurned w' b := by
  obtain ⟨D, h1, h2⟩ := h
  obtain ⟨w', hr, ho, ht⟩ := h1.store keyed4 Tryz.underlying99 (by unfold maxLen; omega) (lit4_spec (four d n).1 (four d n).2.1 (four d n).2.2.1 (four d n).2.2.2) (plainElem_int (H := Unit) Tryz.underlying21 (a := (n : Nat)) (wf32 (by omega) (by omega)))
  have hk := keyed4.key (lit4_spec (four d n).1 (four d n).2.1 (four d n).2.2.1 (four d n).2.2.2)
  refine ⟨w', hr, ⟨_, ho, fun x => ?_⟩, ht⟩
  by_cases hx : four d n = x
  · subst hx
    rw [has_put_same h1.isMap hk, atKey_put_same h1.isMap hk]
    simp [lastAt]
  · have hne : litOf x ≠ litOf (four d n) := fun e => hx (litOf_inj e).symm
    have e : lastAt d x (n + 1) = lastAt d x n := by rw [lastAt, if_neg hx]
    rw [e, has_put_other hne, atKey_put_other hne]
    exact h2 x
theorem prevs_len (d : List UInt8) (k : Nat) : (prevs d k).length = k := by simp [prevs]
theorem prevs_set (d : List UInt8) (n k : Nat) (hk : k < n) (z : Int) (hz : z = lastAt d (four d k) k) : ((prevs d k) ++ List.replicate (n - k) (Value.int .i32 0)).set k (.int .i32 z) = prevs d (k + 1) ++ List.replicate (n - (k + 1)) (Value.int .i32 0) := by
  have e : n - k = (n - (k + 1)) + 1 := by omega
  rw [e, List.replicate_succ, List.set_append_right _ _ (by rw [prevs_len]; exact Nat.le_refl _), prevs_len, Nat.sub_self, List.set_cons_zero, hz]
  have e2 : prevs d (k + 1) = prevs d k ++ [.int .i32 (lastAt d (four d k) k)] := by simp [prevs, List.range_succ]
  rw [e2, List.append_assoc]
  rfl
end Go.Proofs.YtklkboplkobhgaaGreat

/- The places before one with the same four bytes, the nearest first; the places of a pair, in order. -/
namespace Go.Proofs.YtklkboplkobhgaaGreat
set_option maxRecDepth 100000

def chain (d : List UInt8) (x : UInt8 × UInt8 × UInt8 × UInt8) : Nat → List Nat
  | 0 => []
  | n + 1 => if four d n = x then n :: chain d x n else chain d x n
theorem chain_succ (d : List UInt8) (x : UInt8 × UInt8 × UInt8 × UInt8) (n : Nat) : chain d x (n + 1) = if four d n = x then n :: chain d x n else chain d x n := rfl
theorem chain_none {d : List UInt8} {x : UInt8 × UInt8 × UInt8 × UInt8} : ∀ {n}, lastAt d x n < 0 → chain d x n = []
  | 0, _ => rfl
  | n + 1, h => by
    unfold lastAt at h
    rw [chain_succ]
    split at h
    · omega
    · rename_i hx
      rw [if_neg hx]; exact chain_none h
theorem chain_some {d : List UInt8} {x : UInt8 × UInt8 × UInt8 × UInt8} {j : Nat} : ∀ {n}, lastAt d x n = (j : Int) → chain d x n = j :: chain d x j ∧ j < n ∧ four d j = x
  | 0, h => by simp [lastAt] at h
  | n + 1, h => by
    unfold lastAt at h
    rw [chain_succ]
    split at h
    · rename_i hx
      obtain rfl : n = j := by omega
      rw [if_pos hx]
      exact ⟨rfl, by omega, hx⟩
    · rename_i hx
      rw [if_neg hx]
      obtain ⟨h1, h2, h3⟩ := chain_some h
      exact ⟨h1, by omega, h3⟩
theorem mem_chain {d : List UInt8} {x : UInt8 × UInt8 × UInt8 × UInt8} {j : Nat} : ∀ {n}, j ∈ chain d x n ↔ j < n ∧ four d j = x
  | 0 => by simp [chain]
  | n + 1 => by
    rw [chain_succ]
    split
    · rename_i hx
      rw [List.mem_cons, mem_chain]
      constructor
      · rintro (rfl | ⟨h1, h2⟩)
        · exact ⟨by omega, hx⟩
        · exact ⟨by omega, h2⟩
      · rintro ⟨h1, h2⟩
        rcases Nat.lt_or_ge j n with h | h
        · exact .inr ⟨h, h2⟩
        · exact .inl (by omega)
    · rename_i hx
      rw [mem_chain]
      constructor
      · rintro ⟨h1, h2⟩
        exact ⟨by omega, h2⟩
      · rintro ⟨h1, h2⟩
        rcases Nat.lt_or_ge j n with h | h
        · exact ⟨h, h2⟩
        · obtain rfl : j = n := by omega
          exact absurd h2 hx
theorem chain_falls (d : List UInt8) (x : UInt8 × UInt8 × UInt8 × UInt8) : ∀ n, (chain d x n).Pairwise (· > ·)
  | 0 => List.Pairwise.nil
  | n + 1 => by
    rw [chain_succ]
    split
    · exact List.pairwise_cons.2 ⟨fun j hj => (mem_chain.1 hj).1, chain_falls d x n⟩
    · exact chain_falls d x n
/-- Four bytes are alike just where the four are. -/
theorem four_of_len {d : List UInt8} {p q L : Nat} (h : 4 ≤ eqLen d p q L) : four d q = four d p := by
  have hi := (isLen_eqLen d L p q).eq
  have h0 := hi 0 (by omega)
  have h1 := hi 1 (by omega)
  have h2 := hi 2 (by omega)
  have h3 := hi 3 (by omega)
  simp only [Nat.add_zero] at h0
  unfold four
  rw [h0, h1, h2, h3]
theorem pair_of_len {d : List UInt8} {p q L : Nat} (h : 2 ≤ eqLen d p q L) : d.getD q 0 = d.getD p 0 ∧ d.getD (q + 1) 0 = d.getD (p + 1) 0 := by
  have hi := (isLen_eqLen d L p q).eq
  have h0 := hi 0 (by omega)
  have h1 := hi 1 (by omega)
  simp only [Nat.add_zero] at h0
  exact ⟨h0.symm, h1.symm⟩
/-- The places of a pair below n, in order. -/
def places (d : List UInt8) (a b : UInt8) (n : Nat) : List Nat := (List.range n).filter fun i => d.getD i 0 == a && d.getD (i + 1) 0 == b
theorem places_succ (d : List UInt8) (a b : UInt8) (n : Nat) : places d a b (n + 1) = places d a b n ++ (if d.getD n 0 = a ∧ d.getD (n + 1) 0 = b then [n] else []) := by
  unfold places
  rw [List.range_succ, List.filter_append]
  congr 1
  by_cases h : d.getD n 0 = a ∧ d.getD (n + 1) 0 = b
  · have e : (d.getD n 0 == a && d.getD (n + 1) 0 == b) = true := by rw [h.1, h.2]; simp
    rw [if_pos h]
    simp only [List.filter_cons, List.filter_nil, e, if_true]
  · rw [if_neg h]
    simp only [List.filter_cons, List.filter_nil]
    rw [if_neg]
    intro h2
    simp at h2
    exact h (by simpa using h2)
theorem mem_places {d : List UInt8} {a b : UInt8} {n i : Nat} : i ∈ places d a b n ↔ i < n ∧ d.getD i 0 = a ∧ d.getD (i + 1) 0 = b := by
  unfold places
  rw [List.mem_filter, List.mem_range]
  simp only [Bool.and_eq_true, beq_iff_eq]
theorem places_rise (d : List UInt8) (a b : UInt8) (n : Nat) : (places d a b n).Pairwise (· < ·) := List.Pairwise.filter _ (List.pairwise_lt_range)
end Go.Proofs.YtklkboplkobhgaaGreat

/- The finder's beforeFour. -/
namespace Go.Proofs.YtklkboplkobhgaaGreat
set_option maxRecDepth 100000
open Go.RowKit

/-- A block of one value. -/
def BoxAt (b : Nat) (w : World) (v : Value) : Prop := ∃ t, w.heap[b]? = some (.cells [v].toArray t (0, 0))
theorem BoxAt.cell {b : Nat} {w : World} {v : Value} (h : BoxAt b w v) : w.cell? ⟨b, 0, none⟩ = some v := by
  obtain ⟨t, h⟩ := h
  rw [cell_of_row w b _ _ _ _ h]; rfl
theorem BoxAt.keep {b : Nat} {w w' : World} {v : Value} (h : BoxAt b w v) (hb : w'.heap[b]? = w.heap[b]?) : BoxAt b w' v := by
  obtain ⟨t, h⟩ := h
  exact ⟨t, hb.trans h⟩
theorem BoxAt.made (w : World) (v : Value) (t : TypeId) : BoxAt w.heap.size (w.alloc (.cells #[v] t)) v := ⟨t, heap_alloc_last _ _⟩
def FourDone (F : Nat) (place : Int) (w : World) (e : Ending) (w' : World) : Prop := ∃ b1 b2, e = .returned (.func (.func 85) #[] #[PF b1, PF b2]) ∧ BoxAt b1 w' (PF F) ∧ BoxAt b2 w' (.int .i64 place) ∧ w.heap.size ≤ b1 ∧ w.heap.size ≤ b2 ∧ Below w.heap.size w w'
set_option maxRecDepth 100000 in
theorem beforeFour_any (F : Nat) (place : Int) (w : World) : Calls Tryz.prog 72 #[PF F, .int .i64 place] w (FourDone F place w) := by
  obtain ⟨W1, hW1⟩ : ∃ W1, w.alloc (.cells #[PF F] 35) = W1 := ⟨_, rfl⟩
  obtain ⟨W2, hW2⟩ : ∃ W2, W1.alloc (.cells #[.int .i64 place] 3) = W2 := ⟨_, rfl⟩
  have hb1 : Below w.heap.size w W1 := by rw [← hW1]; exact (Below.refl _ _).alloc (Nat.le_refl _) _
  have hb2 : Below W1.heap.size W1 W2 := by rw [← hW2]; exact (Below.refl _ _).alloc (Nat.le_refl _) _
  have hx1 : BoxAt w.heap.size W1 (PF F) := by rw [← hW1]; exact BoxAt.made _ _ _
  have hx2 : BoxAt W1.heap.size W2 (.int .i64 place) := by rw [← hW2]; exact BoxAt.made _ _ _
  have hlt : w.heap.size < W1.heap.size := by rw [← hW1]; simp
  have HH := Lib.hid (And.intro hb1 (And.intro hb2 (And.intro hx1 (And.intro hx2 hlt))))
  have HW1 := Lib.hid hW1
  have HW2 := Lib.hid hW2
  have hsz : Hid (W1.heap.size = w.heap.size + 1) := Lib.hid (by rw [← hW1]; simp)
  clear hW1 hW2 hb1 hb2 hx1 hx2 hlt
  go_enter Tryz.func72, Tryz.ntmps72
  go_wp2_with fail
  rw [HW1.out, HW2.out]
  go_ret
  refine ⟨w.heap.size, W1.heap.size, ?_, HH.out.2.2.1.keep (HH.out.2.1.block _ HH.out.2.2.2.2), HH.out.2.2.2.1, Nat.le_refl _, Nat.le_of_lt HH.out.2.2.2.2, HH.out.1.trans (HH.out.2.1.mono (Nat.le_of_lt HH.out.2.2.2.2))⟩
  first | rfl | (rw [hsz.out]; rfl)
end Go.Proofs.YtklkboplkobhgaaGreat

/- slices.BinarySearch over int32. -/
namespace Go.Proofs.YtklkboplkobhgaaGreat
set_option maxRecDepth 100000
open Go.RowKit

theorem nan_any (x : Int) (w : World) : Calls Tryz.prog 100 #[.int .i32 x] w fun e w' => e = .returned (.bool false) ∧ w = w' := by
  go_enter Tryz.func100, Tryz.ntmps100
  go_wp2_with fail
  go_ret
  exact ⟨rfl, rfl⟩
theorem snan_any (x : Int) (w : World) : Calls Tryz.prog 96 #[.int .i32 x] w fun e w' => e = .returned (.bool false) ∧ w = w' := by
  go_enter Tryz.func96, Tryz.ntmps96
  go_wp2_with fail
  go_ret
  exact ⟨rfl, rfl⟩
theorem less_any (x y : Int) (w : World) : Calls Tryz.prog 95 #[.int .i32 x, .int .i32 y] w fun e w' => e = .returned (.bool (decide (x < y))) ∧ w = w' := by
  have HN := Lib.hid nan_any
  generalize hb : decide (x < y) = b
  go_enter Tryz.func95, Tryz.ntmps95
  go_wp2_with fail
  refine (HN.out _ _).mono ?_
  rintro e w1 ⟨rfl, rfl⟩
  go_wp2_with fail
  go_ret
  exact ⟨rfl, rfl⟩
/-- What can be read of a slice of int32 numbers. -/
def Read32 (w : World) (A : Option Addr) (l : List Nat) : Prop := ∀ i (h : i < l.length), ∃ g, A = some ⟨g, 0, none⟩ ∧ w.cell? ⟨g, i, none⟩ = some (.int .i32 (l[i] : Nat))
def SearchDone (l : List Nat) (x : Nat) (w : World) (e : Ending) (w' : World) : Prop := (∃ (i : Nat) (b : Bool), e = .returned (.tuple #[.int .i64 (i : Nat), .bool b]) ∧ i ≤ l.length ∧ (∀ q (h : q < l.length), q < i → l[q] < x) ∧ (∀ q (h : q < l.length), i ≤ q → x ≤ l[q])) ∧ w = w'
set_option maxRecDepth 100000 in
set_option maxHeartbeats 1000000 in
theorem search_any (A : Option Addr) (l : List Nat) (c x : Nat) (w : World) (hA : Read32 w A l) (hl : l.length ≤ 100000) (hc : l.length ≤ c) (hs : l.Pairwise (· < ·)) :
    Calls Tryz.prog 86 #[.slice A l.length c, .int .i32 (x : Nat)] w (SearchDone l x w) := by
  have hli : (l.length : Int) ≤ 100000 := by omega
  have hci : (l.length : Int) ≤ (c : Int) := by omega
  have HA := Lib.hid hA
  have HLS := Lib.hid less_any
  have HNA := Lib.hid snan_any
  have HSO : Hid (∀ p q (hp : p < l.length) (hq : q < l.length), p < q → l[p] < l[q]) := Lib.hid (fun p q hp hq h => List.pairwise_iff_getElem.1 hs p q hp hq h)
  clear hA hs hc
  go_enter Tryz.func86, Tryz.ntmps86
  go_wp2_with fail
  go_loopw [7, 8] (fun a b wr => ∃ i j : Nat, i ≤ j ∧ j ≤ l.length ∧ a = .int .i64 (i : Nat) ∧ b = .int .i64 (j : Nat) ∧ Hid (∀ q (h : q < l.length), q < i → l[q] < x) ∧ Hid (∀ q (h : q < l.length), j ≤ q → x ≤ l[q]) ∧ wr = w) (fun a b _ => (intOf b).toNat - (intOf a).toNat)
  case atStart => exact ⟨0, l.length, by omega, Nat.le_refl _, rfl, rfl, Lib.hid (fun q _ h => by omega), Lib.hid (fun q h h2 => by omega), rfl⟩
  case round =>
    obtain ⟨i, j, hij, hj, rfl, rfl, H1, H2, rfl⟩ := hrel
    by_cases hlt : i < j
    · have hlti : (i : Int) < (j : Int) := by omega
      have hj4 : (j : Int) ≤ 100000 := by omega
      obtain ⟨m, hm⟩ : ∃ m : Nat, (i + j) / 2 = m := ⟨_, rfl⟩
      have hml : m < l.length := by omega
      have hmi : (m : Int) < (l.length : Int) := by omega
      obtain ⟨g, rfl, hcell⟩ := HA.out m hml
      have e1 : ((i : Int) + (j : Int)) / 2 = (m : Int) := by omega
      have HH := Lib.hid (show i ≤ m ∧ m < j by omega)
      obtain ⟨y, hy⟩ : ∃ y, l[m] = y := ⟨_, rfl⟩
      rw [hy] at hcell
      have HY := Lib.hid hy
      clear hy hm
      by_cases hyx : y < x
      · have hb : decide ((y : Int) < (x : Int)) = true := decide_eq_true (by omega)
        have HL1 := Lib.hid (HLS.out (y : Int) (x : Int) wr)
        rw [hb] at HL1
        have H3 : Hid (∀ q (h : q < l.length), q < m + 1 → l[q] < x) := Lib.hid (fun q hq h2 => by
          rcases Nat.lt_or_ge q m with h3 | h3
          · have := HSO.out q m hq hml h3
            have := HY.out
            omega
          · obtain rfl : q = m := by omega
            have := HY.out
            omega)
        clear hb
        go_wp2_with fail
        refine HL1.out.mono ?_
        rintro e w1 ⟨rfl, rfl⟩
        go_wp2_with fail
        exact ⟨⟨m + 1, j, by have := HH.out; omega, hj, by go_num, rfl, H3, H2, by trivial⟩, by have := HH.out; simp [intOf]; omega⟩
      · have hb : decide ((y : Int) < (x : Int)) = false := decide_eq_false (by omega)
        have HL1 := Lib.hid (HLS.out (y : Int) (x : Int) wr)
        rw [hb] at HL1
        have H3 : Hid (∀ q (h : q < l.length), m ≤ q → x ≤ l[q]) := Lib.hid (fun q hq h2 => by
          rcases Nat.lt_or_ge m q with h3 | h3
          · have := HSO.out m q hml hq h3
            have := HY.out
            omega
          · obtain rfl : q = m := by omega
            have := HY.out
            omega)
        clear hb
        go_wp2_with fail
        refine HL1.out.mono ?_
        rintro e w1 ⟨rfl, rfl⟩
        go_wp2_with fail
        exact ⟨⟨i, m, by have := HH.out; omega, by omega, rfl, rfl, H1, H3, by trivial⟩, by have := HH.out; simp [intOf]; omega⟩
    · obtain rfl : i = j := by omega
      have hi4 : (i : Int) ≤ 100000 := by omega
      by_cases hil : i < l.length
      · have hili : (i : Int) < (l.length : Int) := by omega
        obtain ⟨g, rfl, hcell⟩ := HA.out i hil
        obtain ⟨y, hy⟩ : ∃ y, l[i] = y := ⟨_, rfl⟩
        rw [hy] at hcell
        clear hy
        by_cases hyx : y = x
        · subst hyx
          go_wp2_with fail
          go_ret2
          exact ⟨⟨i, true, rfl, hj, H1.out, H2.out⟩, rfl⟩
        · have hb : ((y : Int) == (x : Int)) = false := by rw [beq_eq_false_iff_ne]; omega
          go_wp2_with fail
          refine (HNA.out _ _).mono ?_
          rintro e w1 ⟨rfl, rfl⟩
          go_wp2_with fail
          go_ret2
          exact ⟨⟨i, false, rfl, hj, H1.out, H2.out⟩, rfl⟩
      · have hili : ¬ (i : Int) < (l.length : Int) := by omega
        go_wp2_with fail
        go_ret2
        exact ⟨⟨i, false, rfl, hj, H1.out, H2.out⟩, rfl⟩
end Go.Proofs.YtklkboplkobhgaaGreat
