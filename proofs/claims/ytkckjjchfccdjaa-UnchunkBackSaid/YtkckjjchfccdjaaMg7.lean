/- Several texts in one: FdMath, FdRange, FdKeys, FdEntry, ChkRange. -/
import Derived.Test.YtkckjjchfccdjaaMg1
import Derived.RangeFuncNested
import Derived.RangeFuncBound
import Derived.RangeFuncCalls
import Derived.RangeFuncLeaves
import Derived.RangeFuncKeeps
import Derived.Sort.BigQuietIn
import Derived.Test.YtkckjjchfccdjaaRows
import Derived.WideKeyArr
import Derived.WideKeyEntry
import Derived.Maps.OwnSet
import Derived.Maps.OwnRows
/- How long bytes are alike. -/
namespace Go.Proofs.Ytkckjjchfccdjaa
set_option maxRecDepth 100000

/-- How long the bytes from p on are like those from q on, at most L. -/
def eqLen (d : List UInt8) : Nat → Nat → Nat → Nat
  | _, _, 0 => 0
  | p, q, L + 1 => if d.getD p 0 = d.getD q 0 then eqLen d (p + 1) (q + 1) L + 1 else 0
structure IsLen (d : List UInt8) (p q L n : Nat) : Prop where
  le : n ≤ L
  eq : ∀ i, i < n → d.getD (p + i) 0 = d.getD (q + i) 0
  stop : n = L ∨ d.getD (p + n) 0 ≠ d.getD (q + n) 0
theorem IsLen.unique {d : List UInt8} {p q L n m : Nat} (h : IsLen d p q L n) (k : IsLen d p q L m) : n = m := by
  rcases Nat.lt_trichotomy n m with hlt | e | hlt
  · rcases h.stop with e | e
    · have := k.le; omega
    · exact absurd (k.eq n hlt) e
  · exact e
  · rcases k.stop with e | e
    · have := h.le; omega
    · exact absurd (h.eq m hlt) e
theorem isLen_eqLen (d : List UInt8) : ∀ (L p q : Nat), IsLen d p q L (eqLen d p q L)
  | 0, p, q => ⟨Nat.le_refl _, (fun i h => absurd h (Nat.not_lt_zero i)), .inl rfl⟩
  | L + 1, p, q => by
    unfold eqLen
    by_cases h : d.getD p 0 = d.getD q 0
    · rw [if_pos h]
      have ih := isLen_eqLen d L (p + 1) (q + 1)
      refine ⟨by have := ih.le; omega, fun i hi => ?_, ?_⟩
      · cases i with
        | zero => exact h
        | succ i =>
          have := ih.eq i (by omega)
          rw [show p + 1 + i = p + (i + 1) by omega, show q + 1 + i = q + (i + 1) by omega] at this
          exact this
      · rcases ih.stop with e | e
        · exact .inl (by omega)
        · rw [show p + 1 + eqLen d (p + 1) (q + 1) L = p + (eqLen d (p + 1) (q + 1) L + 1) by omega, show q + 1 + eqLen d (p + 1) (q + 1) L = q + (eqLen d (p + 1) (q + 1) L + 1) by omega] at e
          exact .inr e
    · rw [if_neg h]
      exact ⟨Nat.zero_le _, (fun i hi => absurd hi (Nat.not_lt_zero i)), .inr h⟩
theorem IsLen.is {d : List UInt8} {p q L n : Nat} (h : IsLen d p q L n) : n = eqLen d p q L := h.unique (isLen_eqLen d L p q)
/-- What may be looked at: at most `most`, at most to the end. -/
def lim (d : List UInt8) (p : Nat) (most : Int) : Nat := (min most ((d.length : Int) - (p : Int))).toNat
theorem lim_le (d : List UInt8) (p : Nat) (most : Int) (h : p ≤ d.length) : p + lim d p most ≤ d.length := by
  unfold lim; omega
theorem lim_lt {d : List UInt8} {p n : Nat} {most : Int} : n < lim d p most ↔ (n : Int) < most ∧ (p : Int) + (n : Int) < (d.length : Int) := by
  unfold lim; omega
end Go.Proofs.Ytkckjjchfccdjaa

/- A range over a function that yields a list of places: the law for a caller whose body may break off; a region of reads in a round. -/
namespace Go.Proofs.Ytkckjjchfccdjaa
set_option maxRecDepth 100000
open Go Go.RowKit

variable {F : Fence} {n : Nat} {P : Program}

/-- The contract of an iterator that only reads: it yields the list's numbers, and no more where it was told. -/
def SeqOf (F : Fence) (n : Nat) (P : Program) (g : Nat) (lb : Array Value) (L : List Nat) (w : World) : Prop :=
  ∀ (l : Nat) (J : List Nat → World → Prop) (Jx : World → Prop) (W : World), (∀ s W, J s W → Below w.heap.size w W) → (∀ s W m, J s W → J s (W.drewN m)) → (∀ W m, Jx W → Jx (W.drewN m)) →
    (∀ pre x t W1, L = pre ++ x :: t → J pre W1 → YieldAt F (n - 1) P l #[.int .i64 (x : Nat)] W1 fun e W' =>
      (e = .returned (.bool true) ∧ J (pre ++ [x]) W') ∨ (e = .returned (.bool false) ∧ Jx W')) →
    J [] W →
    CallsIn F n P g (#[.func (.yield l) #[] #[]] ++ lb) W fun e W' => (∃ v, e = .returned v) ∧ (J L W' ∨ Jx W')
theorem SeqOf.below {g : Nat} {lb : Array Value} {L : List Nat} {w w' : World} (h : SeqOf F n P g lb L w) (hb : Below w.heap.size w w') : SeqOf F n P g lb L w' :=
  fun l J Jx W hB hJ hJx hY h0 => h l J Jx W (fun s W hs => hb.trans ((hB s W hs).mono hb.size)) hJ hJx hY h0

/-- How the body may be left: off its end, or by a jump. -/
def partPost (I : List Nat → World → Prop) (Ix : Code → World → Prop) (xs : List Nat) (W : World) : Exit → Act → World → Prop
  | .normal, _, W' => KeepsOthers W W' ∧ I xs W'
  | .exit id, _, W' => KeepsOthers W W' ∧ Ix (.exit id) W'
  | _, _, _ => False

theorem wpIn_range_of {g : Operand} {ps : Array Tmp} {assign body : Code} {Q : Exit → Act → World → Prop} {a : Act} {w : World}
    (hro : F.round = none) (h1 : 1 ≤ n) {gf : Nat} {lb : Array Value} (hg : a.eval g = .func (.func gf) #[] lb) (hFg : F.fn gf) (eg : ∀ args w, (callFunc gf args).run P w = .ok (.enter gf args) w)
    {L : List Nat} {w0 : World} (hseq : SeqOf F (n - 1) P gf lb L w0) (hps : ps.size = 1)
    (I : List Nat → World → Prop) (Ix : Code → World → Prop)
    (hIa : ∀ s W o, I s W → I s (W.alloc o)) (hIp : ∀ s W l o o', I s W → w.heap.size ≤ l → W.heap[l]? = some o → o.isCells = false → I s (W.putObj l o')) (hIb : ∀ s W, I s W → Below w0.heap.size w0 W) (hId : ∀ s W m, I s W → I s (W.drewN m))
    (hXp : ∀ c W l o o', Ix c W → w.heap.size ≤ l → W.heap[l]? = some o → o.isCells = false → Ix c (W.putObj l o')) (hXd : ∀ c W m, Ix c W → Ix c (W.drewN m)) (h0 : I [] w) (a₁ : Nat → Act)
    (hassign : ∀ (l : Nat) (x : Nat) (W : World) (K : Act → World → Prop), K (a₁ x) W →
      assign.wpIn (F.inRound l) (n - 1 - 1) P (Exit.then K (fun _ _ _ => False)) { tmps := (ps.zip #[.int .i64 (x : Nat)]).foldl (fun t (p, v) => t.setIfInBounds p v) a.tmps, defers := [] } W)
    (hbody : ∀ (l : Nat) (pre : List Nat) (x : Nat) (t : List Nat) (W : World), L = pre ++ x :: t → I pre W → body.wpIn (F.inRound l) (n - 1 - 1) P (partPost I Ix (pre ++ [x]) W) (a₁ x) W)
    (hdone : ∀ (D : Nat) (W : World), w.heap.size ≤ D → I L W → W.heap[D]? = some (.deferred (some [])) → Q .normal { a with defers := { target := .collected D, args := #[] } :: a.defers } W)
    (hstop : ∀ (D : Nat) (c : Code) (W : World), w.heap.size ≤ D → Ix c W → W.heap[D]? = some (.deferred (some [])) → c.wpIn F n P Q { a with defers := { target := .collected D, args := #[] } :: a.defers } W) :
    (Code.rangeFunc g ps assign body).wpIn F n P Q a w := by
  refine wpIn_rangeFunc fun fn hfn => ?_
  rw [hro]
  obtain ⟨rec, hrec⟩ : ∃ rec : LoopState → Option Code → Loop, rec = fun st pe => { state := st, pending := pe, fn, tmps := a.tmps, params := ps, assign, body, defers := w.heap.size } := ⟨_, rfl⟩
  obtain ⟨W1, hW1⟩ : ∃ W1, (w.alloc (.deferred (some []))).alloc (.loop (rec .ready none)) = W1 := ⟨_, rfl⟩
  have hL1 : W1.heap[w.heap.size + 1]? = some (.loop (rec .ready none)) := by
    rw [← hW1]; have := World.alloc_heap_new (w.alloc (.deferred (some []))) (.loop (rec .ready none)); rwa [World.size_alloc] at this
  have hK1 : W1.heap[w.heap.size]? = some (.deferred (some [])) := by
    rw [← hW1]; exact (Below.heap_alloc _ _ _ (by simp)).trans (World.alloc_heap_new w _)
  have hI1 : I [] W1 := by rw [← hW1]; exact hIa _ _ _ (hIa _ _ _ h0)
  refine ⟨w.heap.size + 1, [{ target := .collected w.heap.size, args := #[] }], W1, { target := .fn (.func gf) lb, args := #[.func (.yield (w.heap.size + 1)) #[] #[]] }, W1, gf,
    #[.func (.yield (w.heap.size + 1)) #[] #[]] ++ lb, W1, ?_, ?_, ?_, ?_, fun _ => h1, ?_⟩
  · rw [← hW1, hrec]; exact run_enterLoop_outer _ _ _ _ _
  · simp only [resolve, hg]
    simp [go_sem]
  · intro f' hf'; simp [Target.leads] at hf'; subst hf'; exact hFg
  · simp [invoke, go_sem, eg]
  · refine (hseq (w.heap.size + 1)
      (fun pre W => I pre W ∧ W.heap[w.heap.size + 1]? = some (.loop (rec .ready none)) ∧ W.heap[w.heap.size]? = some (.deferred (some [])))
      (fun W => ∃ c, Ix c W ∧ W.heap[w.heap.size + 1]? = some (.loop (rec .done (some c))) ∧ W.heap[w.heap.size]? = some (.deferred (some [])))
      W1 (fun s W hs => hIb s W hs.1) (fun s W m hs => ⟨hId s W m hs.1, hs.2.1, hs.2.2⟩) (fun W m hs => by obtain ⟨c, h⟩ := hs; exact ⟨c, hXd c W m h.1, h.2.1, h.2.2⟩) ?_ ⟨hI1, hL1, hK1⟩).mono ?_
    · rintro pre x t W hsplit ⟨hi, hl, hk⟩
      have hlt : w.heap.size + 1 < W.heap.size := (Array.getElem?_eq_some_iff.1 hl).1
      have hy := run_yield (P := P) (args := #[.int .i64 (x : Nat)]) hl (by rw [hrec]; simp [hps])
      rw [hrec] at hy
      refine ⟨fn, _, assign, body, hy, roundIn_of_wpIn hfn (hassign _ x W _ ⟨_, run_beginRound hl (by rw [hrec]), ?_⟩)⟩
      have hl2 : (W.putObj (w.heap.size + 1) (.loop { rec .ready none with state := .busy })).heap[w.heap.size + 1]? = some (.loop { rec .ready none with state := .busy }) := World.putObj_heap_same hlt
      have hk2 : (W.putObj (w.heap.size + 1) (.loop { rec .ready none with state := .busy })).heap[w.heap.size]? = some (.deferred (some [])) := (World.putObj_heap_other (by omega)).trans hk
      refine wpIn_mono (hbody _ pre x t _ hsplit (hIp _ _ _ _ _ hi (by omega) hl rfl)) ?_
      have fin : ∀ (jump : Option Code) (W3 : World), KeepsOthers (W.putObj (w.heap.size + 1) (.loop { rec .ready none with state := .busy })) W3 →
          (Instr.endRound (w.heap.size + 1) jump).run P W3 = .ok (.bool jump.isNone) (W3.putObj (w.heap.size + 1) (.loop (rec (if jump.isNone then .ready else .done) jump))) ∧
          W3.heap[w.heap.size + 1]? = some (.loop { rec .ready none with state := .busy }) ∧
          (W3.putObj (w.heap.size + 1) (.loop (rec (if jump.isNone then .ready else .done) jump))).heap[w.heap.size + 1]? = some (.loop (rec (if jump.isNone then .ready else .done) jump)) ∧
          (W3.putObj (w.heap.size + 1) (.loop (rec (if jump.isNone then .ready else .done) jump))).heap[w.heap.size]? = some (.deferred (some [])) := fun jump W3 hk3 => by
        have hl3 := hk3.same _ _ hl2 rfl
        have := run_endRound (P := P) jump hl3
        rw [hrec] at this ⊢
        exact ⟨this, by rw [hrec] at hl3; exact hl3, World.putObj_heap_same (Array.getElem?_eq_some_iff.1 hl3).1, (World.putObj_heap_other (by omega)).trans (hk3.same _ _ hk2 rfl)⟩
      rintro e a3 W3 hp
      cases e with
      | normal =>
        obtain ⟨hk3, hi3⟩ := hp
        obtain ⟨hr, hl3, hl4, hk4⟩ := fin none W3 hk3
        exact ⟨_, _, hr, .inl ⟨rfl, hIp _ _ _ _ _ hi3 (by omega) hl3 rfl, hl4, hk4⟩⟩
      | exit id =>
        obtain ⟨hk3, hi3⟩ := hp
        obtain ⟨hr, hl3, hl4, hk4⟩ := fin (some (.exit id)) W3 hk3
        exact ⟨_, _, hr, .inr ⟨rfl, .exit id, hXp _ _ _ _ _ hi3 (by omega) hl3 rfl, hl4, hk4⟩⟩
      | ret => exact hp.elim
      | goto t => exact hp.elim
      | panic ch => exact hp.elim
      | outgrown => exact hp.elim
    · rintro e W2 ⟨⟨v, rfl⟩, ⟨hi, hl, hk⟩ | ⟨c, hi, hl, hk⟩⟩
      · exact ⟨none, _, by have := run_endLoop (P := P) hl (by rw [hrec]; simp); rw [hrec] at this; exact this, hdone _ _ (Nat.le_refl _) (hIp _ _ _ _ _ hi (by omega) hl rfl) ((World.putObj_heap_other (by omega)).trans hk)⟩
      · exact ⟨some c, _, by have := run_endLoop (P := P) hl (by rw [hrec]; simp); rw [hrec] at this; exact this, hstop _ c _ (Nat.le_refl _) (hXp _ _ _ _ _ hi (by omega) hl rfl) ((World.putObj_heap_other (by omega)).trans hk)⟩

/-- A region that holds no defer statement runs in a round as outside. -/
def noDefer : List Oper → Bool
  | [] => true
  | o :: l => (match o.op with | .defer _ => false | _ => true) && noDefer l
theorem noDefer_mem : ∀ {l : List Oper}, noDefer l = true → ∀ o ∈ l, ∀ c, o.op ≠ .defer c
  | [], _, o, ho => by cases ho
  | o' :: l, h, o, ho => by
    rw [noDefer, Bool.and_eq_true] at h
    intro c e
    rcases List.mem_cons.1 ho with rfl | ho
    · have := h.1; rw [e] at this; cases this
    · exact noDefer_mem h.2 o ho c e
theorem wpAnyIn_round {md : Region.Mode} {l : List Oper} {Q : Exit → Act → World → Prop} {r : Nat} (hro : F.round = none) (hd : noDefer l = true) : ∀ (fuel : Nat) (listed : Array Bool) (a : Act) (w : World), wpAnyIn F n P md l.toArray Q fuel listed a w → wpAnyIn (F.inRound r) n P md l.toArray Q fuel listed a w := by
  intro fuel
  induction fuel with
  | zero => exact fun listed a w h => h
  | succ fuel ih =>
    intro listed a w h
    refine ⟨h.1, fun i hi => ?_⟩
    have hs := h.2 i hi
    unfold wpOpIn at hs ⊢
    split
    · rename_i ho; simp only [ho] at hs; exact ih _ _ _ hs
    · rename_i o ho
      simp only [ho] at hs
      have hm : o ∈ l := by
        have : l[i]? = some o := by simpa using ho
        exact List.mem_of_getElem? this
      split
      · rename_i hw
        simp only [hw, if_true] at hs
        refine Oper.wpIn_mono (K := wpAnyIn F n P md l.toArray Q fuel (listed.setIfInBounds i true)) (fun a w h => ih _ _ _ h) ?_
        unfold Oper.wpIn at hs ⊢
        rw [hro, Oper.semAt_none] at hs
        rw [Fence.inRound_round, Oper.semAt_some _ _ _ (noDefer_mem hd o hm)]
        exact hs
      · rename_i hw
        rw [if_neg hw] at hs
        exact ⟨hs.1, ih _ _ _ hs.2⟩
theorem wpIn_quiet_round {id r : Nat} {Q : Exit → Act → World → Prop} {a : Act} {w : World} {l : List Oper} (hro : F.round = none) (hm : P.follows .mixedOrders = true) (hB : Region.lexB .any l.toArray = true) (hd : noDefer l = true)
    (h : wpQuietIn F n P l.toArray (fun w' => ∃ n, w' = w.drewN n) (fun a' => ∀ w', (∃ n, w' = w.drewN n) → Q .normal a' w') l a) : (Code.region id l.toArray true).wpIn (F.inRound r) n P Q a w := by
  have hB2 := hB
  simp only [Region.lexB, Bool.and_eq_true] at hB2
  refine wpIn_region_any hm (wpAnyIn_round hro hd _ _ _ _ (wpAnyIn_of_quiet (C := fun w' => ∃ n, w' = w.drewN n) (Q := fun a' => ∀ w', (∃ n, w' = w.drewN n) → Q .normal a' w') hro (fun _ w' hw' h => h w' hw') _ _ _ _ ⟨1, rfl⟩ ?_))
  have := wpAnyQIn_lex (F := F) (n := n) (C := fun w' => ∃ n, w' = w.drewN n) (md := .any) hB2.1 l 0 (Array.replicate l.toArray.size false) a (by simp) (by simpa using hB2.2) h
  simpa using this
end Go.Proofs.Ytkckjjchfccdjaa

/- Keys of the finder's maps: two bytes, four bytes. -/
namespace Go.Proofs.Ytkckjjchfccdjaa
set_option maxRecDepth 100000
open Go.Maps Go.WideMaps

theorem arr2 : ArrKey Try.prog 122 5 2 := ⟨Try.underlying122, by kernel_rfl, cells8, by kernel_rfl⟩
theorem arr4 : ArrKey Try.prog 124 5 4 := ⟨Try.underlying124, by kernel_rfl, cells8, by kernel_rfl⟩
theorem keyed2 : Keyed Try.prog 122 := Keyed.of_law arr2.law
theorem keyed4 : Keyed Try.prog 124 := Keyed.of_law arr4.law
def pairV (a b : UInt8) : Value := .agg #[.int .u8 (a.toNat : Nat), .int .u8 (b.toNat : Nat)]
def fourV (a b c d : UInt8) : Value := .agg #[.int .u8 (a.toNat : Nat), .int .u8 (b.toNat : Nat), .int .u8 (c.toNat : Nat), .int .u8 (d.toNat : Nat)]
theorem pairV_inj {a b a' b' : UInt8} (h : pairV a b = pairV a' b') : a = a' ∧ b = b' := by
  unfold pairV at h
  simp at h
  exact ⟨UInt8.toNat_inj.1 (by omega), UInt8.toNat_inj.1 (by omega)⟩
theorem fourV_inj {a b c d a' b' c' d' : UInt8} (h : fourV a b c d = fourV a' b' c' d') : a = a' ∧ b = b' ∧ c = c' ∧ d = d' := by
  unfold fourV at h
  simp at h
  exact ⟨UInt8.toNat_inj.1 (by omega), UInt8.toNat_inj.1 (by omega), UInt8.toNat_inj.1 (by omega), UInt8.toNat_inj.1 (by omega)⟩
theorem wfByte (a : UInt8) : (Lit.int .u8 (a.toNat : Nat)).wf = true := by
  have h := a.toNat_lt
  have e1 : IntKind.u8.min = 0 := rfl
  have e2 : IntKind.u8.max = 255 := rfl
  simp [Lit.wf, e1, e2]; omega
theorem kt2 : Try.prog.keyType 122 = true := by kernel_rfl
theorem kt4 : Try.prog.keyType 124 = true := by kernel_rfl
theorem size0 : ∃ m, Try.prog.types.size = m + 1 := ⟨Try.prog.types.size - 1, by kernel_rfl⟩
set_option maxRecDepth 100000 in
theorem key2 (a b : UInt8) : ∃ l, keyOf Try.prog 122 (pairV a b) = some l := by
  obtain ⟨m, hm⟩ := size0
  unfold keyOf pairV
  rw [Try.underlying122, hm]
  simp [kt2, Value.formed, Try.underlying122, arr2.size, Program.keyLits, Try.underlying5, cells8, Value.cells, wfByte, List.range_succ, List.mapM_cons]
set_option maxRecDepth 100000 in
theorem key4 (a b c d : UInt8) : ∃ l, keyOf Try.prog 124 (fourV a b c d) = some l := by
  obtain ⟨m, hm⟩ := size0
  unfold keyOf fourV
  rw [Try.underlying124, hm]
  simp [kt4, Value.formed, Try.underlying124, arr4.size, Program.keyLits, Try.underlying5, cells8, Value.cells, wfByte, List.range_succ, List.mapM_cons]
/-- What a map's key reads as. -/
noncomputable def lit2 (a b : UInt8) : Lit := Classical.choose (key2 a b)
theorem lit2_spec (a b : UInt8) : keyOf Try.prog 122 (pairV a b) = some (lit2 a b) := Classical.choose_spec (key2 a b)
set_option maxRecDepth 100000 in
theorem lit2_inj {a b a' b' : UInt8} (h : lit2 a b = lit2 a' b') : a = a' ∧ b = b' := pairV_inj (keyed2.inj (lit2_spec a b) (h ▸ lit2_spec a' b'))
noncomputable def lit4 (a b c d : UInt8) : Lit := Classical.choose (key4 a b c d)
theorem lit4_spec (a b c d : UInt8) : keyOf Try.prog 124 (fourV a b c d) = some (lit4 a b c d) := Classical.choose_spec (key4 a b c d)
set_option maxRecDepth 100000 in
theorem lit4_inj {a b c d a' b' c' d' : UInt8} (h : lit4 a b c d = lit4 a' b' c' d') : a = a' ∧ b = b' ∧ c = c' ∧ d = d' := fourV_inj (keyed4.inj (lit4_spec a b c d) (h ▸ lit4_spec a' b' c' d'))
end Go.Proofs.Ytkckjjchfccdjaa

/- m[k] = append(m[k], x) by an entry of the map: the entry is looked up once, and stored into behind the append. -/
namespace Go.Proofs.Ytkckjjchfccdjaa
set_option maxRecDepth 100000
open Go.ChangeMaps Go.MapKept Go.ChangeShapes Go.RowKit
open Go.WideElems (Fit rd rg pl rd_val elemAt)
open Go.Maps (Keyed)
open Go.WideMaps (KeyLaw)

section
variable {H : Type} {P : Program} {w w' : World} {t k E e : TypeId} {R : Value → Option (DataW H × List MemPlace)} {b : Nat} {es es' : Array MapEntry} {clock clock' : Nat}

theorem key_place {l : List MapEntry} (hn : (l.map (·.key)).Nodup) {i j : Nat} {x y : MapEntry} (hx : l[i]? = some x) (hy : l[j]? = some y) (e : x.key = y.key) : i = j := by
  have hi := (List.getElem?_eq_some_iff.1 hx).1
  refine (List.getElem?_inj (l := l.map (·.key)) (by simpa using hi) hn).1 ?_
  simp [hx, hy, e]
theorem key_entry {l : List MapEntry} (hn : (l.map (·.key)).Nodup) {x y : MapEntry} (hx : x ∈ l) (hy : y ∈ l) (e : x.key = y.key) : x = y := by
  obtain ⟨i, hi⟩ := List.getElem?_of_mem hx
  obtain ⟨j, hj⟩ := List.getElem?_of_mem hy
  have := key_place hn hi hj e
  subst this
  rw [hi] at hj
  exact Option.some.inj hj
theorem setBlock_map_inj (hb : w.heap[b]? = some (.map es clock)) {a a' : Array MapEntry} {c c' : Nat} (h : (Result.ok () (setBlock w b (.map a c)) : Result Unit) = .ok () (setBlock w b (.map a' c'))) : a = a' ∧ c = c' := by
  have h1 : setBlock w b (.map a c) = setBlock w b (.map a' c') := by injection h
  have h2 := heap_setBlock_same hb (.map a c)
  rw [h1, heap_setBlock_same hb] at h2
  simp at h2
  exact ⟨h2.1.symm, h2.2.symm⟩
/-- What a store does to a map's block hangs on that block alone. -/
theorem update_local (K : KeyLaw P k) (ht : P.underlying t = some (.map k e)) (F : Fit P k R es clock) (hb : w.heap[b]? = some (.map es clock)) (hb' : w'.heap[b]? = some (.map es clock)) {key val : Value} {kl : Lit} (hkey : keyOf P k key = some kl)
    (h : (Instr.mapUpdate t (.map (some b)) key val).run P w = .ok () (setBlock w b (.map es' clock'))) : (Instr.mapUpdate t (.map (some b)) key val).run P w' = .ok () (setBlock w' b (.map es' clock')) := by
  obtain ⟨_, _, s3⟩ := F.stamped
  rcases K.find w hkey es.toList F.keys with ⟨h1, h2⟩ | ⟨j, e0, h1, h2, h3⟩
  · have e1 : (Instr.mapUpdate t (.map (some b)) key val).run P w = .ok () (setBlock w b (.map (es.push ⟨key, val, clock⟩) (clock + 1))) := by
      simp [Instr.mapUpdate, run_underlying ht, MapKept.run_getObj_map hb, K.check w false hkey, h1, MapKept.run_setObj_map _ hb, Result.andThen, setBlock]
    obtain ⟨rfl, rfl⟩ := setBlock_map_inj hb (h.symm.trans e1)
    rcases K.find w' hkey es.toList F.keys with ⟨g1, g2⟩ | ⟨j', e0', g1, g2, g3⟩
    · simp [Instr.mapUpdate, run_underlying ht, MapKept.run_getObj_map hb', K.check w' false hkey, g1, MapKept.run_setObj_map _ hb', Result.andThen, setBlock]
    · exact absurd g3 (h2 _ (List.mem_of_getElem? g2))
  · have hj : es[j]? = some e0 := by simpa using h2
    have e1 : (Instr.mapUpdate t (.map (some b)) key val).run P w = .ok () (setBlock w b (.map (es.modify j (fun e' => { e' with key := key, val := val })) clock)) := by
      simp [Instr.mapUpdate, run_underlying ht, MapKept.run_getObj_map hb, K.check w false hkey, h1, hj, h3, K.stays w hkey, MapKept.run_setObj_map _ hb, Result.andThen, setBlock]
    obtain ⟨rfl, rfl⟩ := setBlock_map_inj hb (h.symm.trans e1)
    rcases K.find w' hkey es.toList F.keys with ⟨g1, g2⟩ | ⟨j', e0', g1, g2, g3⟩
    · exact absurd h3 (g2 _ (List.mem_of_getElem? h2))
    · have := key_place s3 h2 g2 (h3.trans g3.symm)
      subst this
      rw [h2] at g2
      obtain rfl := Option.some.inj g2
      simp [Instr.mapUpdate, run_underlying ht, MapKept.run_getObj_map hb', K.check w' false hkey, g1, hj, h3, K.stays w' hkey, MapKept.run_setObj_map _ hb', Result.andThen, setBlock]
theorem look_local (K : KeyLaw P k) (ht : P.underlying t = some (.map k e)) {z : Value} (hz : ∀ u : World, (zeroValue e).run P u = .ok z u) (F : Fit P k R es clock) (hb : w.heap[b]? = some (.map es clock)) (hb' : w'.heap[b]? = some (.map es clock)) {key v : Value} {kl : Lit} (hkey : keyOf P k key = some kl)
    (h : (Instr.lookup t (.map (some b)) key false).run P w = .ok v w) : (Instr.lookup t (.map (some b)) key false).run P w' = .ok v w' := by
  obtain ⟨_, _, s3⟩ := F.stamped
  rcases K.find w hkey es.toList F.keys with ⟨h1, h2⟩ | ⟨j, e0, h1, h2, h3⟩
  · have e1 : (Instr.lookup t (.map (some b)) key false).run P w = .ok z w := by
      simp [Instr.lookup, run_underlying ht, MapKept.run_getObj_map hb, K.check w _ hkey, h1, hz, Result.andThen]
    rw [e1] at h
    obtain rfl : z = v := by injection h
    rcases K.find w' hkey es.toList F.keys with ⟨g1, g2⟩ | ⟨j', e0', g1, g2, g3⟩
    · simp [Instr.lookup, run_underlying ht, MapKept.run_getObj_map hb', K.check w' _ hkey, g1, hz, Result.andThen]
    · exact absurd g3 (h2 _ (List.mem_of_getElem? g2))
  · have e1 : (Instr.lookup t (.map (some b)) key false).run P w = .ok e0.val w := by
      simp [Instr.lookup, run_underlying ht, MapKept.run_getObj_map hb, K.check w _ hkey, h1, Result.andThen]
    rw [e1] at h
    obtain rfl : e0.val = v := by injection h
    rcases K.find w' hkey es.toList F.keys with ⟨g1, g2⟩ | ⟨j', e0', g1, g2, g3⟩
    · exact absurd h3 (g2 _ (List.mem_of_getElem? h2))
    · have := key_place s3 h2 g2 (h3.trans g3.symm)
      subst this
      rw [h2] at g2
      obtain rfl := Option.some.inj g2
      simp [Instr.lookup, run_underlying ht, MapKept.run_getObj_map hb', K.check w' _ hkey, g1, Result.andThen]
theorem setBlock_twice (w : World) (b : Nat) (o o' : Obj) : setBlock (setBlock w b o) b o' = setBlock w b o' := by
  simp [setBlock]
variable {base n : Nat} {q : IntKind} {D : DataW H}
theorem groups_entry (h : w.ownsGroups (H := H) P k base e q b n D) (K : KeyLaw P k) (ht : P.underlying t = some (.map k E)) (hz : ∀ u : World, (zeroValue E).run P u = .ok (.slice none 0 0) u) (hn : n < maxLen) {key : Value} {kl : Lit} (hkey : keyOf P k key = some kl) :
    ∃ (v : Value) (zs : List Int) (st : Nat) (w1 : World), (Instr.mapEntry t (.map (some b)) key).run P w = .ok (.tuple #[v, goInt st]) w1 ∧ w.grownBy w1 (some b) ∧ D.atKey kl .nil = rowDatum q v zs ∧ w1.ownsInts base e q v zs ∧ zs.length ≤ n ∧
      ∀ (w2 : World) (v' : Value) (zs' : List Int), w1.grownBy w2 v.ownBlock → w2.ownsInts base e q v' zs' → zs'.length ≤ n + 1 → (v'.ownBlock = v.ownBlock ∨ ∃ g, v'.ownBlock = some g ∧ w.heap.size ≤ g) →
        ∃ w3, (Instr.entryStore t (.map (some b)) (goInt st) v').run P w2 = .ok () w3 ∧ w3.ownsGroups (H := H) P k base e q b (n + 1) (D.put kl (rowDatum q v' zs')) ∧ w2.grownBy w3 (some b) := by
  obtain ⟨es, clock, hb, F, hs, rfl, hbb, hlen, hap⟩ := h
  have hblt : b < w.heap.size := (Array.getElem?_eq_some_iff.1 hb).1
  obtain ⟨_, _, s3⟩ := F.stamped
  obtain ⟨v0, st, es1, clock1, hrun, hv0, hstore⟩ := WideElems.entry_then_store K ht hz hb F hkey
  have hg1 : w.grownBy (setBlock w b (.map es1 clock1)) (some b) := ⟨rfl, rfl, rfl, by simp [setBlock], fun i _ hi => heap_setBlock_other hb _ (fun e1 => hi (by rw [e1]))⟩
  -- what lies at the key, and what it owns
  have hboth : ∃ zs, (DataW.map ((es.toList.map (rg P k (rowElem (H := H) w base e q))).foldr DataW.insert [])).atKey kl .nil = rowDatum q v0 zs ∧ w.ownsInts base e q v0 zs ∧ zs.length ≤ n ∧
      (∀ x ∈ es.toList, x.key ≠ key → x.val.ownBlock = none ∨ x.val.ownBlock ≠ v0.ownBlock) ∧ v0.ownBlock ≠ some b := by
    rcases Maps.fit_look false (Keyed.of_law K) ht (hz w) hb F hkey with ⟨_, hno, hat⟩ | ⟨e0, y, hm0, h3, _, hR, hat, _⟩
    · rcases hv0 with ⟨e0, he0, hk0, _⟩ | ⟨_, rfl⟩
      · exact absurd hk0 (hno e0 he0)
      · exact ⟨[], hat _, World.ownsInts_nil _ _ _ _, Nat.zero_le _, fun x _ _ => by cases x.val.ownBlock <;> simp [Value.ownBlock], by simp [Value.ownBlock]⟩
    · rcases hv0 with ⟨e1, he1, hk1, rfl⟩ | ⟨hno, _⟩
      · obtain rfl := key_entry s3 hm0 he1 (h3.trans hk1.symm)
        obtain ⟨zs, ho, rfl⟩ := rowElem_inv hR
        exact ⟨zs, hat _, ho, hlen e0 hm0 zs ho, fun x hx hne => hap x hx e0 hm0 (by rw [h3]; exact hne), fun e1 => by have := (ho.1.lt b e1).1; omega⟩
      · exact absurd h3 (hno e0 hm0)
  obtain ⟨zs, hat, hoi, hzl, hapart, hvb⟩ := hboth
  have hback := groups_back (Keyed.of_law K) ht hb F hs hn hbb hlen hap hkey hapart hvb
  have hne0 : v0.ownBlock = none ∨ v0.ownBlock ≠ some b := .inr hvb
  refine ⟨v0, zs, st, _, hrun, hg1, hat, hoi.kept hg1 hne0, hzl, fun w2 v' zs' hg hown hl hloc => ?_⟩
  have hb1 : (setBlock w b (.map es1 clock1)).heap[b]? = some (.map es1 clock1) := heap_setBlock_same hb _
  have hsz1 : (setBlock w b (.map es1 clock1)).heap.size = w.heap.size := by simp [setBlock]
  have hb2 : w2.heap[b]? = some (.map es1 clock1) := (hg.block b (by rw [hsz1]; exact hblt) (fun e1 => hvb e1.symm)).trans hb1
  obtain ⟨es', clock', hst, hup⟩ := hstore w2 v' hb2
  -- the world behind the append, had the entry not been laid
  have hbR : (setBlock w2 b (.map es clock)).heap[b]? = some (.map es clock) := heap_setBlock_same hb2 _
  have hgR : w.grownBy (setBlock w2 b (.map es clock)) v0.ownBlock := by
    refine ⟨hg.os, hg.tape, hg.output, ?_, fun i hi hne => ?_⟩
    · have := hg.size; rw [hsz1] at this; simpa [setBlock] using this
    · by_cases hib : i = b
      · subst hib; rw [hbR, hb]
      · rw [heap_setBlock_other hb2 _ hib, hg.block i (by rw [hsz1]; exact hi) hne, heap_setBlock_other hb _ hib]
  have hgR2 : w2.grownBy (setBlock w2 b (.map es clock)) (some b) := ⟨rfl, rfl, rfl, by simp [setBlock], fun i _ hi => heap_setBlock_other hb2 _ (fun e1 => hi (by rw [e1]))⟩
  have hvb' : v'.ownBlock = none ∨ v'.ownBlock ≠ some b := by
    cases hv' : v'.ownBlock with
    | none => exact .inl rfl
    | some g =>
      refine .inr fun e1 => ?_
      have := (hown.1.lt g hv').1
      cases e1
      omega
  obtain ⟨wu, hu1, hu2, _⟩ := hback _ v' zs' hgR (hown.kept hgR2 hvb') hl hloc
  have hu3 := update_local K ht F hb hbR hkey hup
  rw [hu1, setBlock_twice] at hu3
  have hu4 : wu = setBlock w2 b (.map es' clock') := by injection hu3
  subst hu4
  exact ⟨_, hst, hu2, ⟨rfl, rfl, rfl, by simp [setBlock], fun i _ hi => heap_setBlock_other hb2 _ (fun e1 => hi (by rw [e1]))⟩⟩
end
end Go.Proofs.Ytkckjjchfccdjaa

/- A range over a function that yields pairs of numbers and reads two cells between its rounds; the body is never left early. -/
namespace Go.Proofs.Ytkckjjchfccdjaa
set_option maxRecDepth 100000
open Go Go.RowKit

variable {F : Fence} {n : Nat} {P : Program}

/-- The contract of an iterator that reads two blocks between its rounds. -/
def SeqP (F : Fence) (n : Nat) (P : Program) (g : Nat) (lb : Array Value) (b1 b2 : Nat) (L : List (Nat × Nat)) (w : World) : Prop :=
  ∀ (l : Nat) (J : List (Nat × Nat) → World → Prop) (W : World), (∀ s W, J s W → W.heap[b1]? = w.heap[b1]? ∧ W.heap[b2]? = w.heap[b2]?) →
    (∀ pre x t W1, L = pre ++ x :: t → J pre W1 → YieldAt F (n - 1) P l #[.int .i64 (x.1 : Nat), .int .i64 (x.2 : Nat)] W1 fun e W' => e = .returned (.bool true) ∧ J (pre ++ [x]) W') →
    J [] W →
    CallsIn F n P g (#[.func (.yield l) #[] #[]] ++ lb) W fun e W' => (∃ v, e = .returned v) ∧ J L W'

/-- How the body is left: off its end. -/
def offPost (I : List (Nat × Nat) → World → Prop) (xs : List (Nat × Nat)) (W : World) : Exit → Act → World → Prop
  | .normal, _, W' => KeepsOthers W W' ∧ I xs W'
  | _, _, _ => False

theorem wpIn_range_p {g : Operand} {ps : Array Tmp} {assign body : Code} {Q : Exit → Act → World → Prop} {a : Act} {w : World}
    (hro : F.round = none) (h1 : 1 ≤ n) {gf : Nat} {lb : Array Value} (hg : a.eval g = .func (.func gf) #[] lb) (hFg : F.fn gf) (eg : ∀ args w, (callFunc gf args).run P w = .ok (.enter gf args) w)
    {L : List (Nat × Nat)} {b1 b2 : Nat} {w0 : World} (hseq : SeqP F (n - 1) P gf lb b1 b2 L w0) (hps : ps.size = 2)
    (I : List (Nat × Nat) → World → Prop)
    (hIa : ∀ s W o, I s W → I s (W.alloc o)) (hIp : ∀ s W l o o', I s W → w.heap.size ≤ l → W.heap[l]? = some o → o.isCells = false → I s (W.putObj l o')) (hIb : ∀ s W, I s W → W.heap[b1]? = w0.heap[b1]? ∧ W.heap[b2]? = w0.heap[b2]?) (h0 : I [] w) (a₁ : Nat × Nat → Act)
    (hassign : ∀ (l : Nat) (x : Nat × Nat) (W : World) (K : Act → World → Prop), K (a₁ x) W →
      assign.wpIn (F.inRound l) (n - 1 - 1) P (Exit.then K (fun _ _ _ => False)) { tmps := (ps.zip #[.int .i64 (x.1 : Nat), .int .i64 (x.2 : Nat)]).foldl (fun t (p, v) => t.setIfInBounds p v) a.tmps, defers := [] } W)
    (hbody : ∀ (l : Nat) (pre : List (Nat × Nat)) (x : Nat × Nat) (t : List (Nat × Nat)) (W : World), L = pre ++ x :: t → I pre W → body.wpIn (F.inRound l) (n - 1 - 1) P (offPost I (pre ++ [x]) W) (a₁ x) W)
    (hdone : ∀ (D : Nat) (W : World), w.heap.size ≤ D → I L W → W.heap[D]? = some (.deferred (some [])) → Q .normal { a with defers := { target := .collected D, args := #[] } :: a.defers } W) :
    (Code.rangeFunc g ps assign body).wpIn F n P Q a w := by
  refine wpIn_rangeFunc fun fn hfn => ?_
  rw [hro]
  obtain ⟨rec0, hrec⟩ : ∃ rec : LoopState → Loop, rec = fun st => { state := st, pending := none, fn, tmps := a.tmps, params := ps, assign, body, defers := w.heap.size } := ⟨_, rfl⟩
  obtain ⟨W1, hW1⟩ : ∃ W1, (w.alloc (.deferred (some []))).alloc (.loop (rec0 .ready)) = W1 := ⟨_, rfl⟩
  have hL1 : W1.heap[w.heap.size + 1]? = some (.loop (rec0 .ready)) := by
    rw [← hW1]; have := World.alloc_heap_new (w.alloc (.deferred (some []))) (.loop (rec0 .ready)); rwa [World.size_alloc] at this
  have hK1 : W1.heap[w.heap.size]? = some (.deferred (some [])) := by
    rw [← hW1]; exact (Below.heap_alloc _ _ _ (by simp)).trans (World.alloc_heap_new w _)
  have hI1 : I [] W1 := by rw [← hW1]; exact hIa _ _ _ (hIa _ _ _ h0)
  refine ⟨w.heap.size + 1, [{ target := .collected w.heap.size, args := #[] }], W1, { target := .fn (.func gf) lb, args := #[.func (.yield (w.heap.size + 1)) #[] #[]] }, W1, gf,
    #[.func (.yield (w.heap.size + 1)) #[] #[]] ++ lb, W1, ?_, ?_, ?_, ?_, fun _ => h1, ?_⟩
  · rw [← hW1, hrec]; exact run_enterLoop_outer _ _ _ _ _
  · simp only [resolve, hg]
    simp [go_sem]
  · intro f' hf'; simp [Target.leads] at hf'; subst hf'; exact hFg
  · simp [invoke, go_sem, eg]
  · refine (hseq (w.heap.size + 1)
      (fun pre W => I pre W ∧ W.heap[w.heap.size + 1]? = some (.loop (rec0 .ready)) ∧ W.heap[w.heap.size]? = some (.deferred (some [])))
      W1 (fun s W hs => hIb s W hs.1) ?_ ⟨hI1, hL1, hK1⟩).mono ?_
    · rintro pre x t W hsplit ⟨hi, hl, hk⟩
      have hlt : w.heap.size + 1 < W.heap.size := (Array.getElem?_eq_some_iff.1 hl).1
      have hy := run_yield (P := P) (args := #[.int .i64 (x.1 : Nat), .int .i64 (x.2 : Nat)]) hl (by rw [hrec]; simp [hps])
      rw [hrec] at hy
      refine ⟨fn, _, assign, body, hy, roundIn_of_wpIn hfn (hassign _ x W _ ⟨_, run_beginRound hl (by rw [hrec]), ?_⟩)⟩
      have hl2 : (W.putObj (w.heap.size + 1) (.loop { rec0 .ready with state := .busy })).heap[w.heap.size + 1]? = some (.loop { rec0 .ready with state := .busy }) := World.putObj_heap_same hlt
      have hk2 : (W.putObj (w.heap.size + 1) (.loop { rec0 .ready with state := .busy })).heap[w.heap.size]? = some (.deferred (some [])) := (World.putObj_heap_other (by omega)).trans hk
      refine wpIn_mono (hbody _ pre x t _ hsplit (hIp _ _ _ _ _ hi (by omega) hl rfl)) ?_
      rintro e a3 W3 hp
      cases e with
      | normal =>
        obtain ⟨hk3, hi3⟩ := hp
        have hl3 := hk3.same _ _ hl2 rfl
        have hend := run_endRound (P := P) none hl3
        rw [hrec] at hend hl3
        refine ⟨_, _, hend, rfl, hIp _ _ _ _ _ hi3 (by omega) hl3 rfl, ?_, (World.putObj_heap_other (by omega)).trans (hk3.same _ _ hk2 rfl)⟩
        rw [hrec]
        exact World.putObj_heap_same (Array.getElem?_eq_some_iff.1 hl3).1
      | ret => exact hp.elim
      | exit id => exact hp.elim
      | goto t => exact hp.elim
      | panic ch => exact hp.elim
      | outgrown => exact hp.elim
    · rintro e W2 ⟨⟨v, rfl⟩, hi, hl, hk⟩
      exact ⟨none, _, by have := run_endLoop (P := P) hl (by rw [hrec]; simp); rw [hrec] at this; exact this, hdone _ _ (Nat.le_refl _) (hIp _ _ _ _ _ hi (by omega) hl rfl) ((World.putObj_heap_other (by omega)).trans hk)⟩
end Go.Proofs.Ytkckjjchfccdjaa
