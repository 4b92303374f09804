/- Several texts in one: ChkRange, ChkParts, ChkPackM, ChkPack. -/
import Derived.Test.YtklkboplkobhgaaGreatFdAll
import Derived.Test.YtklkboplkobhgaaGreatFdSeqL
import Derived.Lib.MinMax
import Derived.Test.YtklkboplkobhgaaGreatChkChunk
import Derived.OwnWalkIn
/- A range over a function that yields pairs of numbers and reads two cells between its rounds; the body is never left early. -/
namespace Go.Proofs.YtklkboplkobhgaaGreat
set_option maxRecDepth 100000
open Go Go.RowKit

variable {F : Fence} {n : Nat} {P : Program}

/-- The contract of an iterator that reads two blocks between its rounds. -/
def SeqP (F : Fence) (n : Nat) (P : Program) (g : Nat) (lb : Array Value) (b1 b2 : Nat) (L : List (Nat × Nat)) (w : World) : Prop :=
  ∀ (l : Nat) (J : List (Nat × Nat) → World → Prop) (W : World), (∀ s W, J s W → W.heap[b1]? = w.heap[b1]? ∧ W.heap[b2]? = w.heap[b2]?) →
    (∀ pre x t W1, L = pre ++ x :: t → J pre W1 → YieldAt F (n - 1) P l #[.int .i64 (x.1 : Nat), .int .i64 (x.2 : Nat)] W1 fun e W' => e = .returned (.bool true) ∧ J (pre ++ [x]) W') →
    J [] W →
    CallsIn F n P g (#[.func (.yield l) #[] #[]] ++ lb) W fun e W' => (∃ v, e = .returned v) ∧ J L W'

/-- How the body is left: off its end. -/
def offPost (I : List (Nat × Nat) → World → Prop) (xs : List (Nat × Nat)) (W : World) : Exit → Act → World → Prop
  | .normal, _, W' => KeepsOthers W W' ∧ I xs W'
  | _, _, _ => False

theorem wpIn_range_p {g : Operand} {ps : Array Tmp} {assign body : Code} {Q : Exit → Act → World → Prop} {a : Act} {w : World}
    (hro : F.round = none) (h1 : 1 ≤ n) {gf : Nat} {lb : Array Value} (hg : a.eval g = .func (.func gf) #[] lb) (hFg : F.fn gf) (eg : ∀ args w, (callFunc gf args).run P w = .ok (.enter gf args) w)
    {L : List (Nat × Nat)} {b1 b2 : Nat} {w0 : World} (hseq : SeqP F (n - 1) P gf lb b1 b2 L w0) (hps : ps.size = 2)
    (I : List (Nat × Nat) → World → Prop)
    (hIa : ∀ s W o, I s W → I s (W.alloc o)) (hIp : ∀ s W l o o', I s W → w.heap.size ≤ l → W.heap[l]? = some o → o.isCells = false → I s (W.putObj l o')) (hIb : ∀ s W, I s W → W.heap[b1]? = w0.heap[b1]? ∧ W.heap[b2]? = w0.heap[b2]?) (h0 : I [] w) (a₁ : Nat × Nat → Act)
    (hassign : ∀ (l : Nat) (x : Nat × Nat) (W : World) (K : Act → World → Prop), K (a₁ x) W →
      assign.wpIn (F.inRound l) (n - 1 - 1) P (Exit.then K (fun _ _ _ => False)) { tmps := (ps.zip #[.int .i64 (x.1 : Nat), .int .i64 (x.2 : Nat)]).foldl (fun t (p, v) => t.setIfInBounds p v) a.tmps, defers := [] } W)
    (hbody : ∀ (l : Nat) (pre : List (Nat × Nat)) (x : Nat × Nat) (t : List (Nat × Nat)) (W : World), L = pre ++ x :: t → I pre W → body.wpIn (F.inRound l) (n - 1 - 1) P (offPost I (pre ++ [x]) W) (a₁ x) W)
    (hdone : ∀ (D : Nat) (W : World), w.heap.size ≤ D → I L W → W.heap[D]? = some (.deferred (some [])) → Q .normal { a with defers := { target := .collected D, args := #[] } :: a.defers } W) :
    (Code.rangeFunc g ps assign body).wpIn F n P Q a w := by
  refine wpIn_rangeFunc fun fn hfn => ?_
  rw [hro]
  obtain ⟨rec0, hrec⟩ : ∃ rec : LoopState → Loop, rec = fun st => { state := st, pending := none, fn, tmps := a.tmps, params := ps, assign, body, defers := w.heap.size } := ⟨_, rfl⟩
  obtain ⟨W1, hW1⟩ : ∃ W1, (w.alloc (.deferred (some []))).alloc (.loop (rec0 .ready)) = W1 := ⟨_, rfl⟩
  have hL1 : W1.heap[w.heap.size + 1]? = some (.loop (rec0 .ready)) := by
    rw [← hW1]; have := World.alloc_heap_new (w.alloc (.deferred (some []))) (.loop (rec0 .ready)); rwa [World.size_alloc] at this
  have hK1 : W1.heap[w.heap.size]? = some (.deferred (some [])) := by
    rw [← hW1]; exact (Below.heap_alloc _ _ _ (by simp)).trans (World.alloc_heap_new w _)
  have hI1 : I [] W1 := by rw [← hW1]; exact hIa _ _ _ (hIa _ _ _ h0)
  refine ⟨w.heap.size + 1, [{ target := .collected w.heap.size, args := #[] }], W1, { target := .fn (.func gf) lb, args := #[.func (.yield (w.heap.size + 1)) #[] #[]] }, W1, gf,
    #[.func (.yield (w.heap.size + 1)) #[] #[]] ++ lb, W1, ?_, ?_, ?_, ?_, fun _ => h1, ?_⟩
  · rw [← hW1, hrec]; exact run_enterLoop_outer _ _ _ _ _
  · simp only [resolve, hg]
    simp [go_sem]
  · intro f' hf'; simp [Target.leads] at hf'; subst hf'; exact hFg
  · simp [invoke, go_sem, eg]
  · refine (hseq (w.heap.size + 1)
      (fun pre W => I pre W ∧ W.heap[w.heap.size + 1]? = some (.loop (rec0 .ready)) ∧ W.heap[w.heap.size]? = some (.deferred (some [])))
      W1 (fun s W hs => hIb s W hs.1) ?_ ⟨hI1, hL1, hK1⟩).mono ?_
    · rintro pre x t W hsplit ⟨hi, hl, hk⟩
      have hlt : w.heap.size + 1 < W.heap.size := (Array.getElem?_eq_some_iff.1 hl).1
      have hy := run_yield (P := P) (args := #[.int .i64 (x.1 : Nat), .int .i64 (x.2 : Nat)]) hl (by rw [hrec]; simp [hps])
      rw [hrec] at hy
      refine ⟨fn, _, assign, body, hy, roundIn_of_wpIn hfn (hassign _ x W _ ⟨_, run_beginRound hl (by rw [hrec]), ?_⟩)⟩
      have hl2 : (W.putObj (w.heap.size + 1) (.loop { rec0 .ready with state := .busy })).heap[w.heap.size + 1]? = some (.loop { rec0 .ready with state := .busy }) := World.putObj_heap_same hlt
      have hk2 : (W.putObj (w.heap.size + 1) (.loop { rec0 .ready with state := .busy })).heap[w.heap.size]? = some (.deferred (some [])) := (World.putObj_heap_other (by omega)).trans hk
      refine wpIn_mono (hbody _ pre x t _ hsplit (hIp _ _ _ _ _ hi (by omega) hl rfl)) ?_
      rintro e a3 W3 hp
      cases e with
      | normal =>
        obtain ⟨hk3, hi3⟩ := hp
        have hl3 := hk3.same _ _ hl2 rfl
        have hend := run_endRound (P := P) none hl3
        rw [hrec] at hend hl3
        refine ⟨_, _, hend, rfl, hIp _ _ _ _ _ hi3 (by omega) hl3 rfl, ?_, (World.putObj_heap_other (by omega)).trans (hk3.same _ _ hk2 rfl)⟩
        rw [hrec]
        exact World.putObj_heap_same (Array.getElem?_eq_some_iff.1 hl3).1
      | ret => exact hp.elim
      | exit id => exact hp.elim
      | goto t => exact hp.elim
      | panic ch => exact hp.elim
      | outgrown => exact hp.elim
    · rintro e W2 ⟨⟨v, rfl⟩, hi, hl, hk⟩
      exact ⟨none, _, by have := run_endLoop (P := P) hl (by rw [hrec]; simp); rw [hrec] at this; exact this, hdone _ _ (Nat.le_refl _) (hIp _ _ _ _ _ hi (by omega) hl rfl) ((World.putObj_heap_other (by omega)).trans hk)⟩
end Go.Proofs.YtklkboplkobhgaaGreat

/- Chunks: where the parts begin and end. -/
namespace Go.Proofs.YtklkboplkobhgaaGreat
set_option maxRecDepth 100000
open Go.RowKit Go.Shelf
attribute [local go_sem] Oper.semAt_some

def partsOf (n c : Nat) : Nat → Nat → List (Nat × Nat)
  | 0, _ => []
  | f + 1, a => if a < n then (a, min (a + c) n) :: partsOf n c f (a + c) else []
theorem partsOf_more (n c : Nat) (hc : 1 ≤ c) : ∀ (f g a : Nat), n - a ≤ f → n - a ≤ g → partsOf n c f a = partsOf n c g a
  | 0, 0, a, _, _ => rfl
  | 0, g + 1, a, h, _ => by unfold partsOf; rw [if_neg (by omega)]
  | f + 1, 0, a, _, h => by unfold partsOf; rw [if_neg (by omega)]
  | f + 1, g + 1, a, h1, h2 => by
    unfold partsOf
    by_cases hp : a < n
    · rw [if_pos hp, if_pos hp, partsOf_more n c hc f g _ (by omega) (by omega)]
    · rw [if_neg hp, if_neg hp]
/-- The parts from a place on. -/
def partsL (n c a : Nat) : List (Nat × Nat) := partsOf n c (n - a) a
theorem partsL_step {n c a : Nat} (hc : 1 ≤ c) (h : a < n) : partsL n c a = (a, min (a + c) n) :: partsL n c (a + c) := by
  unfold partsL
  obtain ⟨f, hf⟩ : ∃ f, n - a = f + 1 := ⟨n - a - 1, by omega⟩
  rw [hf]
  conv => lhs; unfold partsOf
  rw [if_pos h, partsOf_more n c hc f (n - (a + c)) _ (by omega) (by omega)]
theorem partsL_end {n c a : Nat} (h : ¬ a < n) : partsL n c a = [] := by
  unfold partsL
  rw [show n - a = 0 by omega]; rfl
set_option maxRecDepth 100000 in
set_option maxHeartbeats 1000000 in
theorem parts_seq (F : Fence) (m : Nat) (hfn : F.fn 22) (hro : F.round = none) (hm : 1 ≤ m) (n c b1 b2 : Nat) (hc : 1 ≤ c) (hcb : c ≤ 65536) (hn : n ≤ 4611686018427387904) (w : World) (hx1 : BoxAt b1 w (.int .i64 (n : Nat))) (hx2 : BoxAt b2 w (.int .i64 (c : Nat))) :
    SeqP F m Tryz.prog 22 #[PF b1, PF b2] b1 b2 (partsL n c 0) w := by
  obtain ⟨f1, f2, f4, f3⟩ := F
  obtain rfl : f3 = none := hro
  intro l J W hJB hY h0
  have HC : Hid (∀ s W, J s W → W.cell? ⟨b1, 0, none⟩ = some (.int .i64 (n : Nat)) ∧ W.cell? ⟨b2, 0, none⟩ = some (.int .i64 (c : Nat))) := Lib.hid (fun s W h => by
    obtain ⟨k1, k2⟩ := hJB s W h
    exact ⟨(hx1.keep k1).cell, (hx2.keep k2).cell⟩)
  have HY := Lib.hid hY
  have HX0 := Lib.hid h0
  have hni : (n : Int) ≤ 4611686018427387904 := by omega
  have hci : (c : Int) ≤ 65536 := by omega
  have HCC := Lib.hid (And.intro hc hn)
  obtain ⟨c1, c2⟩ := HC.out _ _ h0
  clear hx1 hx2 hJB hY h0 hc
  refine callsIn_of_wp Tryz.func22 rfl hfn ?_ rfl
  simp only [Tryz.ntmps22, List.size_toArray, List.length_cons, List.length_nil, Nat.reduceAdd, Nat.reduceSub, Array.replicate_succ, Array.replicate_zero, List.push_toArray, List.append_toArray, List.nil_append, List.cons_append]
  gi_wp2
  gi_loopw [4] (fun v wr => ∃ (pre : List (Nat × Nat)) (a : Nat), v = .int .i64 (a : Nat) ∧ Hid (partsL n c 0 = pre ++ partsL n c a) ∧ a ≤ n + 65536 ∧ J pre wr) (fun v _ => n + 65536 - (intOf v).toNat)
  case atStart => exact ⟨[], 0, rfl, Lib.hid rfl, Nat.zero_le _, HX0.out⟩
  case round =>
    obtain ⟨pre, a, rfl, HL, ha, hJs⟩ := hrel
    clear c1 c2
    obtain ⟨c1, c2⟩ := HC.out _ _ hJs
    have HJS := Lib.hid hJs
    have hai : (a : Int) ≤ 4611686018427453440 := by omega
    by_cases han : a < n
    · have e1 : (a : Int) < (n : Int) := by omega
      have h1c := HCC.out.1
      have HST := partsL_step h1c han
      obtain ⟨M, hM⟩ : ∃ M, min (a + c) n = M := ⟨_, rfl⟩
      rw [hM] at HST
      have hMi : min ((a : Int) + (c : Int)) (n : Int) = (M : Int) := by omega
      obtain ⟨fn, tmps, assign, body, hy, hR⟩ := HY.out pre (a, M) (partsL n c (a + c)) wr (by rw [HL.out, HST]) hJs
      have HLE : Hid (partsL n c 0 = (pre ++ [(a, M)]) ++ partsL n c (a + c)) := Lib.hid (by rw [HL.out, HST]; simp)
      have e2 : Hid (((a : Int) + (c : Int)) = ((a + c : Nat) : Int)) := Lib.hid (by omega)
      have hnew : a + c ≤ n + 65536 ∧ a < a + c := by omega
      clear hM HST hJs h1c
      have hwr : IntKind.i64.wrap ((a : Int) + (c : Int)) = (a : Int) + (c : Int) := IntWalk.i64_in _ (by omega)
      gi_wp2
      refine hR.mono ?_
      rintro e W3 ⟨rfl, hJ3⟩
      obtain ⟨c1, c2⟩ := HC.out _ _ hJ3
      have HJ3 := Lib.hid hJ3
      clear hJ3
      gi_wp2
      go_roundw
      case rel => exact ⟨pre ++ [(a, M)], a + c, by rw [← e2.out], HLE, hnew.1, HJ3.out⟩
      case measure => simp [intOf]; omega
    · have e1 : ¬ (a : Int) < (n : Int) := by omega
      have HE : Hid (pre = partsL n c 0) := Lib.hid (by rw [HL.out, partsL_end han, List.append_nil])
      clear han hJs
      gi_wp2
      go_end0
      exact ⟨⟨_, rfl⟩, by rw [← HE.out]; exact HJS.out⟩
def PartsDone (n c : Nat) (w : World) (e : Ending) (w' : World) : Prop := e = .returned (.func (.func 22) #[] #[PF w.heap.size, PF (w.heap.size + 1)]) ∧ (w.alloc (.cells #[.int .i64 (n : Nat)] 3)).alloc (.cells #[.int .i64 (c : Nat)] 3) = w'
set_option maxHeartbeats 400000 in
theorem parts_any (n c : Nat) (w : World) : Calls Tryz.prog 11 #[.int .i64 (n : Nat), .int .i64 (c : Nat)] w (PartsDone n c w) := by
  go_enter Tryz.func11, Tryz.ntmps11
  go_wp2_with fail
  go_ret
  exact ⟨rfl, rfl⟩
end Go.Proofs.YtklkboplkobhgaaGreat

/- Chunks: all parts' chunks, one behind the other. -/
namespace Go.Proofs.YtklkboplkobhgaaGreat
set_option maxRecDepth 100000
open Go.RowKit

theorem partsL_mem {n c : Nat} (hc : 1 ≤ c) : ∀ (f a : Nat), n - a ≤ f → ∀ x ∈ partsL n c a, x.1 < x.2 ∧ x.2 ≤ n
  | 0, a, h, x, hx => by
    rw [partsL_end (by omega)] at hx; cases hx
  | f + 1, a, h, x, hx => by
    by_cases ha : a < n
    · rw [partsL_step hc ha] at hx
      rcases List.mem_cons.1 hx with rfl | hx
      · show a < min (a + c) n ∧ min (a + c) n ≤ n; omega
      · exact partsL_mem hc f (a + c) (by omega) x hx
    · rw [partsL_end ha] at hx; cases hx
theorem partsL_len {n c : Nat} (hc : 1 ≤ c) : ∀ (f a : Nat), n - a ≤ f → (partsL n c a).length ≤ n - a
  | 0, a, h => by
    rw [partsL_end (by omega)]; exact Nat.zero_le _
  | f + 1, a, h => by
    by_cases ha : a < n
    · rw [partsL_step hc ha]
      have := partsL_len (n := n) hc f (a + c) (by omega)
      simp only [List.length_cons]; omega
    · rw [partsL_end ha]; exact Nat.zero_le _
theorem partsL_many {n c : Nat} (hc : 1 ≤ c) : ∀ (f a : Nat), n - a ≤ f → (partsL n c a).length * c ≤ (n - a) + (c - 1)
  | 0, a, h => by
    rw [partsL_end (by omega)]; simp
  | f + 1, a, h => by
    by_cases ha : a < n
    · rw [partsL_step hc ha]
      by_cases hb : a + c < n
      · have := partsL_many (n := n) hc f (a + c) (by omega)
        simp only [List.length_cons, Nat.add_mul, Nat.one_mul]; omega
      · rw [partsL_end hb]
        simp only [List.length_cons, List.length_nil, Nat.zero_add, Nat.one_mul]; omega
    · rw [partsL_end ha]; simp
theorem storeOf_len {D : List UInt8} {a b : Nat} (hab : a < b) (hb : b ≤ D.length) : (storeOf D a b).length = b - a + 3 := by
  unfold storeOf
  rw [List.length_append, List.length_cons, List.length_take, List.length_drop]
  have : (twoB (b - a - 1)).length = 2 := rfl
  omega
theorem chunkOf_len {k : PkS} {a b : Nat} {s : CodS} {had : Bool} (hab : a < b) (hb : b ≤ k.D.length) : (chunkOf k a b s had).1.length ≤ b - a + 3 := by
  have e : chunkOf k a b s had = if b - a + 3 ≤ (packedOf k a b s had (codeOf k a b (codOf s)).1).length ∨ 65536 < (codeOf k a b (codOf s)).1.length then (storeOf k.D a b, none, had) else (packedOf k a b s had (codeOf k a b (codOf s)).1, some (codeOf k a b (codOf s)).2, true) := rfl
  rw [e]
  split
  · show (storeOf k.D a b).length ≤ _
    rw [storeOf_len hab hb]
    exact Nat.le_refl _
  · rename_i h
    show (packedOf k a b s had (codeOf k a b (codOf s)).1).length ≤ _
    rw [not_or] at h
    omega
/-- Parts' chunks, and the coder then. -/
def packGo (k : PkS) : List (Nat × Nat) → CodS × Bool → List UInt8 × CodS × Bool
  | [], z => ([], z)
  | x :: l, z => ((chunkOf k x.1 x.2 z.1 z.2).1 ++ (packGo k l (chunkOf k x.1 x.2 z.1 z.2).2).1, (packGo k l (chunkOf k x.1 x.2 z.1 z.2).2).2)
theorem packGo_snoc (k : PkS) (x : Nat × Nat) : ∀ (l : List (Nat × Nat)) (z : CodS × Bool), packGo k (l ++ [x]) z = ((packGo k l z).1 ++ (chunkOf k x.1 x.2 (packGo k l z).2.1 (packGo k l z).2.2).1, (chunkOf k x.1 x.2 (packGo k l z).2.1 (packGo k l z).2.2).2)
  | [], z => by
    show ((chunkOf k x.1 x.2 z.1 z.2).1 ++ [], (chunkOf k x.1 x.2 z.1 z.2).2) = ([] ++ (chunkOf k x.1 x.2 z.1 z.2).1, _)
    rw [List.append_nil, List.nil_append]; rfl
  | y :: l, z => by
    have h := packGo_snoc k x l (chunkOf k y.1 y.2 z.1 z.2).2
    show ((chunkOf k y.1 y.2 z.1 z.2).1 ++ (packGo k (l ++ [x]) (chunkOf k y.1 y.2 z.1 z.2).2).1, (packGo k (l ++ [x]) (chunkOf k y.1 y.2 z.1 z.2).2).2) = _
    rw [h, ← List.append_assoc]; rfl
theorem packGo_len {k : PkS} {n c : Nat} (hc : 1 ≤ c) (hn : n = k.D.length) : ∀ (f a : Nat) (z : CodS × Bool), n - a ≤ f → (packGo k (partsL n c a) z).1.length ≤ (n - a) + 3 * (partsL n c a).length
  | 0, a, z, h => by
    rw [partsL_end (by omega)]; exact Nat.zero_le _
  | f + 1, a, z, h => by
    by_cases ha : a < n
    · rw [partsL_step hc ha]
      have h1 := packGo_len hc hn f (a + c) (chunkOf k a (min (a + c) n) z.1 z.2).2 (by omega)
      have h2 := chunkOf_len (k := k) (a := a) (b := min (a + c) n) (s := z.1) (had := z.2) (by omega) (by omega)
      show ((chunkOf k a (min (a + c) n) z.1 z.2).1 ++ (packGo k (partsL n c (a + c)) (chunkOf k a (min (a + c) n) z.1 z.2).2).1).length ≤ _
      rw [List.length_append, List.length_cons]
      omega
    · rw [partsL_end ha]; exact Nat.zero_le _
/-- Any part of the list is short. -/
theorem packGo_pre {k : PkS} : ∀ (l : List (Nat × Nat)) (z : CodS × Bool), (∀ x ∈ l, x.1 < x.2 ∧ x.2 ≤ k.D.length) → (packGo k l z).1.length ≤ l.length * (k.D.length + 3)
  | [], _, _ => Nat.zero_le _
  | x :: l, z, h => by
    have h1 := packGo_pre l (chunkOf k x.1 x.2 z.1 z.2).2 (fun y hy => h y (by simp [hy]))
    obtain ⟨h3, h4⟩ := h x (by simp)
    have h2 := chunkOf_len (k := k) (a := x.1) (b := x.2) (s := z.1) (had := z.2) h3 h4
    show ((chunkOf k x.1 x.2 z.1 z.2).1 ++ (packGo k l (chunkOf k x.1 x.2 z.1 z.2).2).1).length ≤ _
    rw [List.length_append, List.length_cons, Nat.add_mul, Nat.one_mul]
    omega
/-- Chunks of the data. -/
def packB (k : PkS) : List UInt8 := (packGo k (partsL k.D.length k.chunk.toNat 0) (none, false)).1 ++ [0]
/-- The append of bytes inside a fence. -/
theorem wpListIn_append_bytes {F : Fence} {n : Nat} {ops : Array Oper} {rest : List Oper} {o : Oper} {a : Act} {Q : Exit → Act → World → Prop} (hgd : o.guard = none) (s x : Operand)
    (ho : o.op = .call { callee := .builtin .append, args := #[s, x], argTypes := #[22, 22] })
    (base : Nat) (w : World) (v : Value) (xs : List UInt8) (hs : a.eval s = v) (hown : Own base w v xs) (A : Option Addr) (l : List UInt8) (c : Nat) (hx : a.eval x = .slice A l.length c) (hB : Bytes w A l)
    (hsz : xs.length + l.length ≤ 140737488355328) (hbase : base ≤ w.heap.size)
    (h : ∀ v' w', Own base w' v' (xs ++ l) → w.grownBy w' v.ownBlock → wpListIn F n Tryz.prog ops Q rest (a.put o.dst v') w') : wpListIn F n Tryz.prog ops Q (o :: rest) a w := by
  refine wpListIn_plain hgd fun K hK => ?_
  obtain ⟨v', w', hr, h2, h3⟩ := run_append_bytes base o.type w v xs hown A l c hB hsz hbase
  unfold Oper.wpIn
  refine ⟨?_, ?_⟩
  · simp [Oper.about, ho, resolve, Target.leads, Sem.run_pure]
  · rw [Oper.semAt_plain F _ _ (by rw [ho]; intro c hc'; cases hc')]
    simp [execOp, ho, resolve, invoke, builtin, hs, hx, hr, Result.andThen]
    exact hK _ _ (h v' w' h2 h3)
end Go.Proofs.YtklkboplkobhgaaGreat

/- Chunks: Pack. -/
namespace Go.Proofs.YtklkboplkobhgaaGreat
set_option maxRecDepth 100000
open Go.RowKit Go.Shelf
attribute [local go_sem] Oper.semAt_some

def PackBad (w : World) (e : Ending) (w' : World) : Prop := e = .returned (.tuple #[.slice none 0 0, .int .i64 1]) ∧ Below w.heap.size w w'
theorem packBoxes {w W : World} {vs : List Value} {t0 t1 t2 : TypeId} {v1 v2 : Value} (h : ((w.alloc (.cells vs.toArray t0)).alloc (.cells #[v1] t1)).alloc (.cells #[v2] t2) = W) :
    W.heap[w.heap.size]? = some (.cells vs.toArray t0 (0, 0)) ∧ W.heap[w.heap.size + 1]? = some (.cells #[v1] t1 (0, 0)) ∧ W.heap[w.heap.size + 1 + 1]? = some (.cells #[v2] t2 (0, 0)) ∧ Below w.heap.size w W ∧ W.heap.size = w.heap.size + 1 + 1 + 1 := by
  subst h
  have up : ∀ {b : Nat} {W : World} {o' : Obj} (o : Obj), W.heap[b]? = some o' → (W.alloc o).heap[b]? = some o' := fun o h => (Below.heap_alloc _ _ _ (Array.getElem?_eq_some_iff.1 h).1).trans h
  have mk2 : ∀ (W : World) (o : Obj) (b : Nat), b = W.heap.size → (W.alloc o).heap[b]? = some o := fun W o b e => by subst e; exact heap_alloc_last W o
  refine ⟨up _ (up _ (mk2 _ _ _ rfl)), up _ (mk2 _ _ _ (by simp)), mk2 _ _ _ (by simp), ?_, by simp⟩
  refine Below.alloc ?_ (by simp; omega) _
  refine Below.alloc ?_ (by simp) _
  exact (Below.refl _ _).alloc (Nat.le_refl _) _
set_option maxRecDepth 100000 in
set_option maxHeartbeats 2000000 in
theorem pack_bad (v : Value) (lc lp pb nice chunk block check : Int) (chain : Value) (dict : Nat) (w : World) (hf : fineB lc lp pb nice chunk dict = false) :
    Calls Tryz.prog 5 #[v, OptV lc lp pb nice chunk block check chain dict] w (PackBad w) := by
  obtain ⟨W, hW⟩ : ∃ W, ((w.alloc (.cells #[.int .i64 lc, .int .i64 lp, .int .i64 pb, .int .i64 nice, .int .i64 chunk, .int .i64 block, .int .i64 check, chain, .int .u32 (dict : Nat)] 26)).alloc (.cells #[.slice none 0 0] 22)).alloc (.cells #[.int .i64 0] 28) = W := ⟨_, rfl⟩
  obtain ⟨r0, r1, r2, hb, hs⟩ := packBoxes (vs := optRow lc lp pb nice chunk block check chain dict) hW
  have HF := Lib.hid (fine_any lc lp pb nice chunk block check chain dict W)
  rw [hf] at HF
  have c0 : W.cell? ⟨w.heap.size, 0, none⟩ = some (.int .i64 lc) := by rw [cell_of_row W _ _ _ _ _ r0]; rfl
  have c1 : W.cell? ⟨w.heap.size, 1, none⟩ = some (.int .i64 lp) := by rw [cell_of_row W _ _ _ _ _ r0]; rfl
  have c2 : W.cell? ⟨w.heap.size, 2, none⟩ = some (.int .i64 pb) := by rw [cell_of_row W _ _ _ _ _ r0]; rfl
  have c3 : W.cell? ⟨w.heap.size, 3, none⟩ = some (.int .i64 nice) := by rw [cell_of_row W _ _ _ _ _ r0]; rfl
  have c4 : W.cell? ⟨w.heap.size, 4, none⟩ = some (.int .i64 chunk) := by rw [cell_of_row W _ _ _ _ _ r0]; rfl
  have c5 : W.cell? ⟨w.heap.size, 5, none⟩ = some (.int .i64 block) := by rw [cell_of_row W _ _ _ _ _ r0]; rfl
  have c6 : W.cell? ⟨w.heap.size, 6, none⟩ = some (.int .i64 check) := by rw [cell_of_row W _ _ _ _ _ r0]; rfl
  have c7 : W.cell? ⟨w.heap.size, 7, none⟩ = some chain := by rw [cell_of_row W _ _ _ _ _ r0]; rfl
  have c8 : W.cell? ⟨w.heap.size, 8, none⟩ = some (.int .u32 (dict : Nat)) := by rw [cell_of_row W _ _ _ _ _ r0]; rfl
  have HW := Lib.hid hW
  have HB := Lib.hid hb
  have HR : Hid (W.heap[w.heap.size + 1]? = some (.cells #[.slice none 0 0] 22 (0, 0)) ∧ W.heap[w.heap.size + 1 + 1]? = some (.cells #[.int .i64 0] 28 (0, 0))) := Lib.hid ⟨r1, r2⟩
  clear hW hb hs r0 r1 r2 hf
  go_enter Tryz.func5, Tryz.ntmps5
  go_upto_region 1 with fail
  rw [HW.out]
  go_wp2_with fail
  refine HF.out.mono ?_
  rintro e w1 ⟨rfl, hb1⟩
  have l1 : w.heap.size + 1 < W.heap.size := (Array.getElem?_eq_some_iff.1 HR.out.1).1
  have l2 : w.heap.size + 1 + 1 < W.heap.size := (Array.getElem?_eq_some_iff.1 HR.out.2).1
  have s1 := (hb1.block _ l1).trans HR.out.1
  have s2 := (hb1.block _ l2).trans HR.out.2
  have k1 : w1.cell? ⟨w.heap.size + 1, 0, none⟩ = some (.slice none 0 0) := by rw [cell_of_row w1 _ _ _ _ _ s1]; rfl
  have k2 : w1.cell? ⟨w.heap.size + 1 + 1, 0, none⟩ = some (.int .i64 0) := by rw [cell_of_row w1 _ _ _ _ _ s2]; rfl
  have f1 := frozen_of_row w1 _ 0 _ _ s1
  have f2 := frozen_of_row w1 _ 0 _ _ s2
  have n12 : w.heap.size + 1 ≠ w.heap.size + 1 + 1 := by omega
  have HB1 := Lib.hid (HB.out.trans (hb1.mono HB.out.size))
  clear hb1 l1 l2 s1 s2 c0 c1 c2 c3 c4 c5 c6 c7 c8
  go_wp2_with fail
  have kk1 : ((w1.setCell ⟨w.heap.size + 1, 0, none⟩ (.slice none 0 0)).setCell ⟨w.heap.size + 1 + 1, 0, none⟩ (.int .i64 1)).cell? ⟨w.heap.size + 1, 0, none⟩ = some (.slice none 0 0) := by
    rw [World.cell?_setCell_other _ _ _ _ (fun e => by have := congrArg Addr.block e; simp at this)]
    exact World.cell?_setCell_same _ _ _ k1
  have kk2 : ((w1.setCell ⟨w.heap.size + 1, 0, none⟩ (.slice none 0 0)).setCell ⟨w.heap.size + 1 + 1, 0, none⟩ (.int .i64 1)).cell? ⟨w.heap.size + 1 + 1, 0, none⟩ = some (.int .i64 1) :=
    World.cell?_setCell_same _ _ _ ((World.cell?_setCell_other _ _ _ _ (fun e => by have := congrArg Addr.block e; simp at this)).trans k2)
  have hbw := (HB1.out.setCell (p := ⟨w.heap.size + 1, 0, none⟩) (Nat.le_succ _) (.slice none 0 0)).setCell (p := ⟨w.heap.size + 1 + 1, 0, none⟩) (Nat.le_trans (Nat.le_succ _) (Nat.le_succ _)) (.int .i64 1)
  generalize (w1.setCell ⟨w.heap.size + 1, 0, none⟩ (.slice none 0 0)).setCell ⟨w.heap.size + 1 + 1, 0, none⟩ (.int .i64 1) = W9 at *
  exact bodyPost_ret (v := .tuple #[.slice none 0 0, .int .i64 1]) (by simp [results, Tryz.results5, go_sem, kk1, kk2]) rfl ⟨rfl, hbw⟩
structure PkO (k : PkS) (o : Value) : Prop where
  val : o = OptV (k.lc : Nat) (k.lp : Nat) (k.pb : Nat) k.nice k.chunk k.block k.check k.chain k.dict
  lc : k.lc ≤ 4
  lp : k.lp ≤ 4
  pb : k.pb ≤ 4
  lclp : k.lc + k.lp ≤ 4
  nice : 2 ≤ k.nice ∧ k.nice ≤ 273
  chunk : 1 ≤ k.chunk ∧ k.chunk ≤ 65536
  dict : 4096 ≤ k.dict ∧ k.dict ≤ 67108864
end Go.Proofs.YtklkboplkobhgaaGreat
