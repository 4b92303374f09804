/- Several texts in one: ChkParts, ChkPackM, MbMem. -/
import Derived.Test.YtkckjjchfccdjaaMg7
import Derived.Test.YtkckjjchfccdjaaMg19
import Derived.Lib.MinMax
import Derived.Test.YtkckjjchfccdjaaMg26
import Derived.OwnWalkIn
import Derived.Test.YtkckjjchfccdjaaMg17
import Derived.Test.YtkckjjchfccdjaaMg13
/- Chunks: where the parts begin and end. -/
namespace Go.Proofs.Ytkckjjchfccdjaa
set_option maxRecDepth 100000
open Go.RowKit Go.Shelf
attribute [local go_sem] Oper.semAt_some

def partsOf (n c : Nat) : Nat → Nat → List (Nat × Nat)
  | 0, _ => []
  | f + 1, a => if a < n then (a, min (a + c) n) :: partsOf n c f (a + c) else []
theorem partsOf_more (n c : Nat) (hc : 1 ≤ c) : ∀ (f g a : Nat), n - a ≤ f → n - a ≤ g → partsOf n c f a = partsOf n c g a
  | 0, 0, a, _, _ => rfl
  | 0, g + 1, a, h, _ => by unfold partsOf; rw [if_neg (by omega)]
  | f + 1, 0, a, _, h => by unfold partsOf; rw [if_neg (by omega)]
  | f + 1, g + 1, a, h1, h2 => by
    unfold partsOf
    by_cases hp : a < n
    · rw [if_pos hp, if_pos hp, partsOf_more n c hc f g _ (by omega) (by omega)]
    · rw [if_neg hp, if_neg hp]
/-- The parts from a place on. -/
def partsL (n c a : Nat) : List (Nat × Nat) := partsOf n c (n - a) a
theorem partsL_step {n c a : Nat} (hc : 1 ≤ c) (h : a < n) : partsL n c a = (a, min (a + c) n) :: partsL n c (a + c) := by
  unfold partsL
  obtain ⟨f, hf⟩ : ∃ f, n - a = f + 1 := ⟨n - a - 1, by omega⟩
  rw [hf]
  conv => lhs; unfold partsOf
  rw [if_pos h, partsOf_more n c hc f (n - (a + c)) _ (by omega) (by omega)]
theorem partsL_end {n c a : Nat} (h : ¬ a < n) : partsL n c a = [] := by
  unfold partsL
  rw [show n - a = 0 by omega]; rfl
set_option maxRecDepth 100000 in
set_option maxHeartbeats 1000000 in
theorem parts_seq (F : Fence) (m : Nat) (hfn : F.fn 32) (hro : F.round = none) (hm : 1 ≤ m) (n c b1 b2 : Nat) (hc : 1 ≤ c) (hcb : c ≤ 65536) (hn : n ≤ 4611686018427387904) (w : World) (hx1 : BoxAt b1 w (.int .i64 (n : Nat))) (hx2 : BoxAt b2 w (.int .i64 (c : Nat))) :
    SeqP F m Try.prog 32 #[PF b1, PF b2] b1 b2 (partsL n c 0) w := by
  obtain ⟨f1, f2, f4, f3⟩ := F
  obtain rfl : f3 = none := hro
  intro l J W hJB hY h0
  have HC : Hid (∀ s W, J s W → W.cell? ⟨b1, 0, none⟩ = some (.int .i64 (n : Nat)) ∧ W.cell? ⟨b2, 0, none⟩ = some (.int .i64 (c : Nat))) := Lib.hid (fun s W h => by
    obtain ⟨k1, k2⟩ := hJB s W h
    exact ⟨(hx1.keep k1).cell, (hx2.keep k2).cell⟩)
  have HY := Lib.hid hY
  have HX0 := Lib.hid h0
  have hni : (n : Int) ≤ 4611686018427387904 := by omega
  have hci : (c : Int) ≤ 65536 := by omega
  have HCC := Lib.hid (And.intro hc hn)
  obtain ⟨c1, c2⟩ := HC.out _ _ h0
  clear hx1 hx2 hJB hY h0 hc
  refine callsIn_of_wp Try.func32 rfl hfn ?_ rfl
  simp only [Try.ntmps32, List.size_toArray, List.length_cons, List.length_nil, Nat.reduceAdd, Nat.reduceSub, Array.replicate_succ, Array.replicate_zero, List.push_toArray, List.append_toArray, List.nil_append, List.cons_append]
  gi_wp2
  gi_loopw [4] (fun v wr => ∃ (pre : List (Nat × Nat)) (a : Nat), v = .int .i64 (a : Nat) ∧ Hid (partsL n c 0 = pre ++ partsL n c a) ∧ a ≤ n + 65536 ∧ J pre wr) (fun v _ => n + 65536 - (intOf v).toNat)
  case atStart => exact ⟨[], 0, rfl, Lib.hid rfl, Nat.zero_le _, HX0.out⟩
  case round =>
    obtain ⟨pre, a, rfl, HL, ha, hJs⟩ := hrel
    clear c1 c2
    obtain ⟨c1, c2⟩ := HC.out _ _ hJs
    have HJS := Lib.hid hJs
    have hai : (a : Int) ≤ 4611686018427453440 := by omega
    by_cases han : a < n
    · have e1 : (a : Int) < (n : Int) := by omega
      have h1c := HCC.out.1
      have HST := partsL_step h1c han
      obtain ⟨M, hM⟩ : ∃ M, min (a + c) n = M := ⟨_, rfl⟩
      rw [hM] at HST
      have hMi : min ((a : Int) + (c : Int)) (n : Int) = (M : Int) := by omega
      obtain ⟨fn, tmps, assign, body, hy, hR⟩ := HY.out pre (a, M) (partsL n c (a + c)) wr (by rw [HL.out, HST]) hJs
      have HLE : Hid (partsL n c 0 = (pre ++ [(a, M)]) ++ partsL n c (a + c)) := Lib.hid (by rw [HL.out, HST]; simp)
      have e2 : Hid (((a : Int) + (c : Int)) = ((a + c : Nat) : Int)) := Lib.hid (by omega)
      have hnew : a + c ≤ n + 65536 ∧ a < a + c := by omega
      clear hM HST hJs h1c
      have hwr : IntKind.i64.wrap ((a : Int) + (c : Int)) = (a : Int) + (c : Int) := IntWalk.i64_in _ (by omega)
      gi_wp2
      refine hR.mono ?_
      rintro e W3 ⟨rfl, hJ3⟩
      obtain ⟨c1, c2⟩ := HC.out _ _ hJ3
      have HJ3 := Lib.hid hJ3
      clear hJ3
      gi_wp2
      go_roundw
      case rel => exact ⟨pre ++ [(a, M)], a + c, by rw [← e2.out], HLE, hnew.1, HJ3.out⟩
      case measure => simp [intOf]; omega
    · have e1 : ¬ (a : Int) < (n : Int) := by omega
      have HE : Hid (pre = partsL n c 0) := Lib.hid (by rw [HL.out, partsL_end han, List.append_nil])
      clear han hJs
      gi_wp2
      go_end0
      exact ⟨⟨_, rfl⟩, by rw [← HE.out]; exact HJS.out⟩
def PartsDone (n c : Nat) (w : World) (e : Ending) (w' : World) : Prop := e = .returned (.func (.func 32) #[] #[PF w.heap.size, PF (w.heap.size + 1)]) ∧ (w.alloc (.cells #[.int .i64 (n : Nat)] 3)).alloc (.cells #[.int .i64 (c : Nat)] 3) = w'
set_option maxHeartbeats 400000 in
theorem parts_any (n c : Nat) (w : World) : Calls Try.prog 18 #[.int .i64 (n : Nat), .int .i64 (c : Nat)] w (PartsDone n c w) := by
  go_enter Try.func18, Try.ntmps18
  go_wp2_with fail
  go_ret
  exact ⟨rfl, rfl⟩
end Go.Proofs.Ytkckjjchfccdjaa

/- Chunks: all parts' chunks, one behind the other. -/
namespace Go.Proofs.Ytkckjjchfccdjaa
set_option maxRecDepth 100000
open Go.RowKit

theorem partsL_mem {n c : Nat} (hc : 1 ≤ c) : ∀ (f a : Nat), n - a ≤ f → ∀ x ∈ partsL n c a, x.1 < x.2 ∧ x.2 ≤ n
  | 0, a, h, x, hx => by
    rw [partsL_end (by omega)] at hx; cases hx
  | f + 1, a, h, x, hx => by
    by_cases ha : a < n
    · rw [partsL_step hc ha] at hx
      rcases List.mem_cons.1 hx with rfl | hx
      · show a < min (a + c) n ∧ min (a + c) n ≤ n; omega
      · exact partsL_mem hc f (a + c) (by omega) x hx
    · rw [partsL_end ha] at hx; cases hx
theorem partsL_len {n c : Nat} (hc : 1 ≤ c) : ∀ (f a : Nat), n - a ≤ f → (partsL n c a).length ≤ n - a
  | 0, a, h => by
    rw [partsL_end (by omega)]; exact Nat.zero_le _
  | f + 1, a, h => by
    by_cases ha : a < n
    · rw [partsL_step hc ha]
      have := partsL_len (n := n) hc f (a + c) (by omega)
      simp only [List.length_cons]; omega
    · rw [partsL_end ha]; exact Nat.zero_le _
theorem partsL_many {n c : Nat} (hc : 1 ≤ c) : ∀ (f a : Nat), n - a ≤ f → (partsL n c a).length * c ≤ (n - a) + (c - 1)
  | 0, a, h => by
    rw [partsL_end (by omega)]; simp
  | f + 1, a, h => by
    by_cases ha : a < n
    · rw [partsL_step hc ha]
      by_cases hb : a + c < n
      · have := partsL_many (n := n) hc f (a + c) (by omega)
        simp only [List.length_cons, Nat.add_mul, Nat.one_mul]; omega
      · rw [partsL_end hb]
        simp only [List.length_cons, List.length_nil, Nat.zero_add, Nat.one_mul]; omega
    · rw [partsL_end ha]; simp
theorem storeOf_len {D : List UInt8} {a b : Nat} (hab : a < b) (hb : b ≤ D.length) : (storeOf D a b).length = b - a + 3 := by
  unfold storeOf
  rw [List.length_append, List.length_cons, List.length_take, List.length_drop]
  have : (twoB (b - a - 1)).length = 2 := rfl
  omega
theorem chunkOf_len {k : PkS} {a b : Nat} {s : CodS} {had : Bool} (hab : a < b) (hb : b ≤ k.D.length) : (chunkOf k a b s had).1.length ≤ b - a + 3 := by
  have e : chunkOf k a b s had = if b - a + 3 ≤ (packedOf k a b s had (codeOf k a b (codOf s)).1).length ∨ 65536 < (codeOf k a b (codOf s)).1.length then (storeOf k.D a b, none, had) else (packedOf k a b s had (codeOf k a b (codOf s)).1, some (codeOf k a b (codOf s)).2, true) := rfl
  rw [e]
  split
  · show (storeOf k.D a b).length ≤ _
    rw [storeOf_len hab hb]
    exact Nat.le_refl _
  · rename_i h
    show (packedOf k a b s had (codeOf k a b (codOf s)).1).length ≤ _
    rw [not_or] at h
    omega
/-- Parts' chunks, and the coder then. -/
def packGo (k : PkS) : List (Nat × Nat) → CodS × Bool → List UInt8 × CodS × Bool
  | [], z => ([], z)
  | x :: l, z => ((chunkOf k x.1 x.2 z.1 z.2).1 ++ (packGo k l (chunkOf k x.1 x.2 z.1 z.2).2).1, (packGo k l (chunkOf k x.1 x.2 z.1 z.2).2).2)
theorem packGo_snoc (k : PkS) (x : Nat × Nat) : ∀ (l : List (Nat × Nat)) (z : CodS × Bool), packGo k (l ++ [x]) z = ((packGo k l z).1 ++ (chunkOf k x.1 x.2 (packGo k l z).2.1 (packGo k l z).2.2).1, (chunkOf k x.1 x.2 (packGo k l z).2.1 (packGo k l z).2.2).2)
  | [], z => by
    show ((chunkOf k x.1 x.2 z.1 z.2).1 ++ [], (chunkOf k x.1 x.2 z.1 z.2).2) = ([] ++ (chunkOf k x.1 x.2 z.1 z.2).1, _)
    rw [List.append_nil, List.nil_append]; rfl
  | y :: l, z => by
    have h := packGo_snoc k x l (chunkOf k y.1 y.2 z.1 z.2).2
    show ((chunkOf k y.1 y.2 z.1 z.2).1 ++ (packGo k (l ++ [x]) (chunkOf k y.1 y.2 z.1 z.2).2).1, (packGo k (l ++ [x]) (chunkOf k y.1 y.2 z.1 z.2).2).2) = _
    rw [h, ← List.append_assoc]; rfl
theorem packGo_len {k : PkS} {n c : Nat} (hc : 1 ≤ c) (hn : n = k.D.length) : ∀ (f a : Nat) (z : CodS × Bool), n - a ≤ f → (packGo k (partsL n c a) z).1.length ≤ (n - a) + 3 * (partsL n c a).length
  | 0, a, z, h => by
    rw [partsL_end (by omega)]; exact Nat.zero_le _
  | f + 1, a, z, h => by
    by_cases ha : a < n
    · rw [partsL_step hc ha]
      have h1 := packGo_len hc hn f (a + c) (chunkOf k a (min (a + c) n) z.1 z.2).2 (by omega)
      have h2 := chunkOf_len (k := k) (a := a) (b := min (a + c) n) (s := z.1) (had := z.2) (by omega) (by omega)
      show ((chunkOf k a (min (a + c) n) z.1 z.2).1 ++ (packGo k (partsL n c (a + c)) (chunkOf k a (min (a + c) n) z.1 z.2).2).1).length ≤ _
      rw [List.length_append, List.length_cons]
      omega
    · rw [partsL_end ha]; exact Nat.zero_le _
/-- Any part of the list is short. -/
theorem packGo_pre {k : PkS} : ∀ (l : List (Nat × Nat)) (z : CodS × Bool), (∀ x ∈ l, x.1 < x.2 ∧ x.2 ≤ k.D.length) → (packGo k l z).1.length ≤ l.length * (k.D.length + 3)
  | [], _, _ => Nat.zero_le _
  | x :: l, z, h => by
    have h1 := packGo_pre l (chunkOf k x.1 x.2 z.1 z.2).2 (fun y hy => h y (by simp [hy]))
    obtain ⟨h3, h4⟩ := h x (by simp)
    have h2 := chunkOf_len (k := k) (a := x.1) (b := x.2) (s := z.1) (had := z.2) h3 h4
    show ((chunkOf k x.1 x.2 z.1 z.2).1 ++ (packGo k l (chunkOf k x.1 x.2 z.1 z.2).2).1).length ≤ _
    rw [List.length_append, List.length_cons, Nat.add_mul, Nat.one_mul]
    omega
/-- Chunks of the data. -/
def packB (k : PkS) : List UInt8 := (packGo k (partsL k.D.length k.chunk.toNat 0) (none, false)).1 ++ [0]
/-- The append of bytes inside a fence. -/
theorem wpListIn_append_bytes {F : Fence} {n : Nat} {ops : Array Oper} {rest : List Oper} {o : Oper} {a : Act} {Q : Exit → Act → World → Prop} (hgd : o.guard = none) (s x : Operand)
    (ho : o.op = .call { callee := .builtin .append, args := #[s, x], argTypes := #[22, 22] })
    (base : Nat) (w : World) (v : Value) (xs : List UInt8) (hs : a.eval s = v) (hown : Own base w v xs) (A : Option Addr) (l : List UInt8) (c : Nat) (hx : a.eval x = .slice A l.length c) (hB : Bytes w A l)
    (hsz : xs.length + l.length ≤ 140737488355328) (hbase : base ≤ w.heap.size)
    (h : ∀ v' w', Own base w' v' (xs ++ l) → w.grownBy w' v.ownBlock → wpListIn F n Try.prog ops Q rest (a.put o.dst v') w') : wpListIn F n Try.prog ops Q (o :: rest) a w := by
  refine wpListIn_plain hgd fun K hK => ?_
  obtain ⟨v', w', hr, h2, h3⟩ := run_append_bytes base o.type w v xs hown A l c hB hsz hbase
  unfold Oper.wpIn
  refine ⟨?_, ?_⟩
  · simp [Oper.about, ho, resolve, Target.leads, Sem.run_pure]
  · rw [Oper.semAt_plain F _ _ (by rw [ho]; intro c hc'; cases hc')]
    simp [execOp, ho, resolve, invoke, builtin, hs, hx, hr, Result.andThen]
    exact hK _ _ (h v' w' h2 h3)
end Go.Proofs.Ytkckjjchfccdjaa

/- The round trip's memory: a coder of symbols, the reference's, a history, symbols put, apart from one another. -/
namespace Go.Proofs.Ytkckjjchfccdjaa
set_option maxRecDepth 100000
open Go.RowKit

/-- An append of a symbol, and where it lies. -/
theorem wpList_append_sy2 {ops : Array Oper} {rest : List Oper} {o : Oper} {a : Act} {Q : Exit → Act → World → Prop} (hgd : o.guard = none) (s x : Operand)
    (ho : o.op = .call { callee := .builtin .append, args := #[s, x], argTypes := #[126, 126] })
    (base : Nat) (w : World) (v : Value) (l : List Sy) (hs : a.eval s = v) (hown : OwnS base w v l) (hh c : Nat) (y : Sy) (hx : a.eval x = .slice (some ⟨hh, 0, none⟩) 1 c)
    (hc : w.heap[hh]? = some (.cells (syCells [y]).toArray 99 (0, 0))) (hl : l.length ≤ 1000000) (hbase : base ≤ w.heap.size)
    (h : ∀ v' w', OwnS base w' v' (l ++ [y]) → w.grownBy w' v.ownBlock → (v'.ownBlock = v.ownBlock ∨ v'.ownBlock = some w.heap.size) → wpList Try.prog ops Q rest (a.put o.dst v') w') : wpList Try.prog ops Q (o :: rest) a w := by
  refine wpList_plain hgd fun K hK => ?_
  obtain ⟨i, hi, hz⟩ := Option.map_eq_some_iff.1 infoSy
  injection hz with hz0 hz; injection hz with hz1 hz2
  obtain ⟨v', w', hr, h2, h3, _, h5⟩ := run_append_own_at (P := Try.prog) w base 126 o.type 99 i _ 5 40 Try.underlying126 hi hz0 hz1 hz2 rfl (by decide)
    v l.length (syCells l) hown ⟨hh, 0, none⟩ 1 c (syCells [y]) (by rw [syCells_length]; rfl) (by
      intro j u hu
      have e : (⟨hh, 0, none⟩ : Addr).add j = ⟨hh, j, none⟩ := by unfold Addr.add; split <;> simp_all
      rw [e, cell_of_row w hh _ _ _ _ hc, List.getElem?_toArray, hu]) (by intro u hu; simp [syCells] at hu; rcases hu with rfl | rfl | rfl | rfl | rfl <;> rfl) (by unfold maxLen; omega) (by omega) hbase
  unfold Oper.wp execOp
  simp only [ho, resolve, invoke, builtin, Sem.run_bind, Sem.run_pure, Result.andThen_ok, List.map_toArray, List.map_cons, List.map_nil, hs, hx, hr]
  exact hK _ _ (h v' w' (by unfold OwnS; rw [syCells_append]; simpa using h2) h3 h5)
/-- Parts of memory; those of Wr lie apart from all others. -/
structure Sep (Wr : Nat → Prop) (lo n : Nat) (p : Nat → List Nat) : Prop where
  dis : ∀ a b, Wr a → a ≠ b → ∀ i ∈ p a, i ∉ p b
  lt : ∀ a, ∀ i ∈ p a, i < n
  lo : ∀ a, a = 0 ∨ a = 1 ∨ a = 3 → ∀ i ∈ p a, lo ≤ i
def pset (p : Nat → List Nat) (k : Nat) (Y : List Nat) : Nat → List Nat := fun a => if a = k then Y else p a
theorem pset_same (p : Nat → List Nat) (k : Nat) (Y : List Nat) : pset p k Y k = Y := if_pos rfl
theorem pset_ne {p : Nat → List Nat} {k a : Nat} (Y : List Nat) (h : a ≠ k) : pset p k Y a = p a := if_neg h
theorem Sep.step {Wr : Nat → Prop} {lo n n' : Nat} {p : Nat → List Nat} (h : Sep Wr lo n p) (k : Nat) {Y : List Nat} (hn : n ≤ n') (hlo : lo ≤ n) (hY : ∀ i ∈ Y, (i ∈ p k ∨ n ≤ i) ∧ i < n') : Sep Wr lo n' (pset p k Y) := by
  refine ⟨fun a b hw hab i hi => ?_, fun a i hi => ?_, fun a ha i hi => ?_⟩
  · by_cases hak : a = k
    · subst hak
      rw [pset_same] at hi
      rw [pset_ne Y (fun e => hab e.symm)]
      intro hb
      rcases (hY i hi).1 with h1 | h1
      · exact h.dis a b hw hab i h1 hb
      · have := h.lt b i hb; omega
    · rw [pset_ne Y hak] at hi
      by_cases hbk : b = k
      · subst hbk
        rw [pset_same]
        intro hb
        rcases (hY i hb).1 with h1 | h1
        · exact h.dis a b hw hab i hi h1
        · have := h.lt a i hi; omega
      · rw [pset_ne Y hbk]
        exact h.dis a b hw hab i hi
  · by_cases hak : a = k
    · subst hak
      rw [pset_same] at hi
      exact (hY i hi).2
    · rw [pset_ne Y hak] at hi
      exact Nat.lt_of_lt_of_le (h.lt a i hi) hn
  · by_cases hak : a = k
    · subst hak
      rw [pset_same] at hi
      rcases (hY i hi).1 with h1 | h1
      · exact h.lo a ha i h1
      · omega
    · rw [pset_ne Y hak] at hi
      exact h.lo a ha i hi
theorem Sep.more {Wr : Nat → Prop} {lo n n' : Nat} {p : Nat → List Nat} (h : Sep Wr lo n p) (hn : n ≤ n') : Sep Wr lo n' p := ⟨h.dis, fun a i hi => Nat.lt_of_lt_of_le (h.lt a i hi) hn, h.lo⟩
def HistIn (w : World) (v : Value) (H : List UInt8) (Y : List Nat) : Prop := ∃ A c, v = .slice A H.length c ∧ H.length ≤ c ∧ c ≤ 9223372036854775807 ∧ Bytes w A H ∧ ∀ a, A = some a → a.block ∈ Y
theorem HistIn.keep {w w' : World} {v : Value} {H : List UInt8} {Y : List Nat} (h : HistIn w v H Y) (hs : w.heap.size ≤ w'.heap.size) (hY : ∀ i ∈ Y, w'.heap[i]? = w.heap[i]?) : HistIn w' v H Y := by
  obtain ⟨A, c, rfl, hc, hm, hB, hA⟩ := h
  refine ⟨A, c, rfl, hc, hm, hB.keep hs (fun p hp hl => ?_), hA⟩
  cases A with
  | none => cases hp
  | some a =>
    have e : a.block = p.block := by simpa using hp
    unfold World.cell?
    rw [← e, hY _ (hA a rfl)]
theorem MS.keepAll {io : Io} {w w' : World} {C L lc lp pb st : Nat} {r : R4} {x : io.S} {X : List Nat} (h : MS io w C L lc lp pb st r x X) (hs : w.heap.size ≤ w'.heap.size) (hk : ∀ i ∈ C :: L :: X, w'.heap[i]? = w.heap[i]?) : MS io w' C L lc lp pb st r x X :=
  ⟨h.mod.keep (hk C (by simp)) (hk L (by simp)), io.keep h.io hs (fun i hi => hk i (by simp [hi])), h.outC, h.outL⟩
/-- All that a loop of the laws holds. -/
structure Lp (w0 w : World) (io : Io) (C L lc lp pb st : Nat) (r : R4) (x : io.S) (X : List Nat) (C2 base : Nat) (st2 : Nat) (r2 : R4) (hv : Value) (H : List UInt8) (pv : Value) (ss : List Sy) (R : World → Prop) (Wr : Nat → Prop) (p : Nat → List Nat) : Prop where
  ms : MS io w C L lc lp pb st r x X
  p0 : p 0 = C :: L :: X
  cod : ∃ Pl vR vP, CodAt w C2 base (lc : Nat) (lp : Nat) (pb : Nat) (st2 : Nat) r2 Pl vR vP ∧ C2 ∈ p 1 ∧ (∀ g, vR.ownBlock = some g → g ∈ p 1) ∧ ∀ g, vP.ownBlock = some g → g ∈ p 1
  base : base ≤ w.heap.size
  hist : HistIn w hv H (p 2)
  puts : OwnS w0.heap.size w pv ss ∧ ∀ g, pv.ownBlock = some g → g ∈ p 3
  rest : R w
  frame : ∀ w1 w2, R w1 → w1.heap.size ≤ w2.heap.size → (∀ i ∈ p 4, w2.heap[i]? = w1.heap[i]?) → R w2
  sep : Sep Wr w0.heap.size w.heap.size p
  wr : Wr 0 ∧ Wr 1 ∧ Wr 3
  below : Below w0.heap.size w0 w
section
variable {w0 w w' : World} {io : Io} {C L lc lp pb st : Nat} {r : R4} {x : io.S} {X : List Nat} {C2 base st2 : Nat} {r2 : R4} {hv : Value} {H : List UInt8} {pv : Value} {ss : List Sy} {R : World → Prop} {Wr : Nat → Prop} {p : Nat → List Nat}
theorem Lp.codKeep (t : Lp w0 w io C L lc lp pb st r x X C2 base st2 r2 hv H pv ss R Wr p) (hk : ∀ i ∈ p 1, w'.heap[i]? = w.heap[i]?) : ∃ Pl vR vP, CodAt w' C2 base (lc : Nat) (lp : Nat) (pb : Nat) (st2 : Nat) r2 Pl vR vP ∧ C2 ∈ p 1 ∧ (∀ g, vR.ownBlock = some g → g ∈ p 1) ∧ ∀ g, vP.ownBlock = some g → g ∈ p 1 := by
  obtain ⟨Pl, vR, vP, hC, h1, h2, h3⟩ := t.cod
  exact ⟨Pl, vR, vP, ⟨(hk C2 h1).trans hC.box, hC.reps.keep fun g hg => hk g (h2 g hg), hC.ps.keep fun g hg => hk g (h3 g hg)⟩, h1, h2, h3⟩
theorem Lp.next (t : Lp w0 w io C L lc lp pb st r x X C2 base st2 r2 hv H pv ss R Wr p) (hb : Below w.heap.size w w') : Lp w0 w' io C L lc lp pb st r x X C2 base st2 r2 hv H pv ss R Wr p := by
  have hk : ∀ a, ∀ i ∈ p a, w'.heap[i]? = w.heap[i]? := fun a i hi => hb.block i (t.sep.lt a i hi)
  exact ⟨t.ms.below hb, t.p0, t.codKeep (hk 1), Nat.le_trans t.base hb.size, t.hist.keep hb.size (hk 2), ⟨t.puts.1.below hb, t.puts.2⟩, t.frame _ _ t.rest hb.size (hk 4), t.frame, t.sep.more hb.size, t.wr, t.below.trans (hb.mono t.below.size)⟩
theorem Lp.code {st' : Nat} {r' : R4} {x' : io.S} (t : Lp w0 w io C L lc lp pb st r x X C2 base st2 r2 hv H pv ss R Wr p) (hw : Went io C L lc lp pb st' r' x' X w w') :
    ∃ X' p', Lp w0 w' io C L lc lp pb st' r' x' X' C2 base st2 r2 hv H pv ss R Wr p' ∧ p' 4 = p 4 := by
  obtain ⟨X', hM, hon, hX⟩ := hw
  have hk : ∀ a, a ≠ 0 → ∀ i ∈ p a, w'.heap[i]? = w.heap[i]? := fun a ha i hi => hon.block i (t.sep.lt a i hi) (fun hm => t.sep.dis 0 a t.wr.1 (fun e => ha e.symm) i (by rw [t.p0]; exact hm) hi)
  have hY : ∀ i ∈ C :: L :: X', (i ∈ p 0 ∨ w.heap.size ≤ i) ∧ i < w'.heap.size := by
    intro i hi
    refine ⟨?_, hM.ltall i hi⟩
    rw [t.p0]
    simp only [List.mem_cons] at hi ⊢
    rcases hi with rfl | rfl | hi
    · exact .inl (.inl rfl)
    · exact .inl (.inr (.inl rfl))
    · rcases hX i hi with h | h
      · exact .inl (.inr (.inr h))
      · exact .inr h
  have e : ∀ a, a ≠ 0 → pset p 0 (C :: L :: X') a = p a := fun a ha => pset_ne _ ha
  refine ⟨X', pset p 0 (C :: L :: X'), ⟨hM, pset_same _ _ _, ?_, Nat.le_trans t.base hon.size, ?_, ?_, t.frame _ _ t.rest hon.size (hk 4 (by decide)), ?_, t.sep.step 0 hon.size t.below.size hY, t.wr, Only.below_of t.below hon (fun i hi => t.sep.lo 0 (.inl rfl) i (by rw [t.p0]; exact hi))⟩, e 4 (by decide)⟩
  · rw [e 1 (by decide)]; exact t.codKeep (hk 1 (by decide))
  · rw [e 2 (by decide)]; exact t.hist.keep hon.size (hk 2 (by decide))
  · rw [e 3 (by decide)]; exact ⟨t.puts.1.keep fun g hg => hk 3 (by decide) g (t.puts.2 g hg), t.puts.2⟩
  · rw [e 4 (by decide)]; exact t.frame
theorem Lp.bec (t : Lp w0 w io C L lc lp pb st r x X C2 base st2 r2 hv H pv ss R Wr p) : ∃ Pl vR vP, CodAt w C2 base (lc : Nat) (lp : Nat) (pb : Nat) (st2 : Nat) r2 Pl vR vP ∧ ∀ (st' : Nat) (r' : R4) (e : Ending) (w' : World), BecDone2 C2 base (lc : Nat) (lp : Nat) (pb : Nat) (st' : Nat) r' Pl vR vP w e w' → e = .returned (.tuple #[]) ∧ ∃ p', Lp w0 w' io C L lc lp pb st r x X C2 base st' r' hv H pv ss R Wr p' ∧ p' 4 = p 4 := by
  obtain ⟨Pl, vR, vP, hC, h1, h2, h3⟩ := t.cod
  refine ⟨Pl, vR, vP, hC, ?_⟩
  rintro st' r' e w' ⟨vR', rfl, hC', hg, hv⟩
  refine ⟨rfl, ?_⟩
  have hk : ∀ a, a ≠ 1 → ∀ i ∈ p a, w'.heap[i]? = w.heap[i]? := fun a ha i hi => hg.block i (t.sep.lt a i hi) (fun hm => t.sep.dis 1 a t.wr.2.1 (fun e => ha e.symm) i (by injection hm with hm; rw [hm]; exact h1) hi)
  have hsz := hg.size
  have hY : ∀ i ∈ C2 :: (vR'.ownBlock.toList ++ vP.ownBlock.toList), (i ∈ p 1 ∨ w.heap.size ≤ i) ∧ i < w'.heap.size := by
    intro i hi
    simp only [List.mem_cons, List.mem_append, Option.mem_toList] at hi
    rcases hi with rfl | hi | hi
    · exact ⟨.inl h1, hC'.lt⟩
    · refine ⟨?_, (hC'.reps.lt i hi).2⟩
      rcases hv with hv | hv
      · rw [hv] at hi; exact .inl (h2 i hi)
      · exact .inr (hv i hi)
    · exact ⟨.inl (h3 i hi), (hC'.ps.lt i hi).2⟩
  have e : ∀ a, a ≠ 1 → pset p 1 (C2 :: (vR'.ownBlock.toList ++ vP.ownBlock.toList)) a = p a := fun a ha => pset_ne _ ha
  refine ⟨pset p 1 (C2 :: (vR'.ownBlock.toList ++ vP.ownBlock.toList)), ⟨t.ms.keepAll hsz (fun i hi => hk 0 (by decide) i (by rw [t.p0]; exact hi)), by rw [e 0 (by decide)]; exact t.p0, ⟨Pl, vR', vP, hC', ?_, ?_, ?_⟩, Nat.le_trans t.base hsz, ?_, ?_, t.frame _ _ t.rest hsz (hk 4 (by decide)), ?_, t.sep.step 1 hsz t.below.size hY, t.wr, ?_⟩, e 4 (by decide)⟩
  · rw [pset_same]; simp
  · intro g hg; rw [pset_same]; simp [hg]
  · intro g hg; rw [pset_same]; simp [hg]
  · rw [e 2 (by decide)]; exact t.hist.keep hsz (hk 2 (by decide))
  · rw [e 3 (by decide)]; exact ⟨t.puts.1.keep fun g hg => hk 3 (by decide) g (t.puts.2 g hg), t.puts.2⟩
  · rw [e 4 (by decide)]; exact t.frame
  · exact below_grown t.below hg t.below.size (fun g e => by injection e with e; subst e; exact t.sep.lo 1 (.inr (.inl rfl)) _ h1)
theorem Lp.grow {v : Value} {H' : List UInt8} (t : Lp w0 w io C L lc lp pb st r x X C2 base st2 r2 hv H pv ss R Wr p) (hb : Below w.heap.size w w') (ho : Own w.heap.size w' v H') :
    ∃ p', Lp w0 w' io C L lc lp pb st r x X C2 base st2 r2 v H' pv ss R Wr p' ∧ p' 4 = p 4 := by
  have t' := t.next hb
  have hf := ho.from_base
  obtain ⟨A, c, rfl, hc, hm, hB⟩ := ho.read
  have e : ∀ a, a ≠ 2 → pset p 2 (A.map (·.block)).toList a = p a := fun a ha => pset_ne _ ha
  have hY : ∀ i ∈ (A.map (·.block)).toList, (i ∈ p 2 ∨ w.heap.size ≤ i) ∧ i < w'.heap.size := by
    intro i hi
    simp only [Option.mem_toList, Option.map_eq_some_iff] at hi
    obtain ⟨a, rfl, rfl⟩ := hi
    exact ⟨.inr (hf _ rfl).1, (hf _ rfl).2⟩
  refine ⟨pset p 2 (A.map (·.block)).toList, ⟨t'.ms, by rw [e 0 (by decide)]; exact t.p0, by rw [e 1 (by decide)]; exact t'.cod, t'.base, ?_, by rw [e 3 (by decide)]; exact t'.puts, t'.rest, by rw [e 4 (by decide)]; exact t.frame, t.sep.step 2 hb.size t.below.size hY, t.wr, t'.below⟩, e 4 (by decide)⟩
  exact ⟨A, c, rfl, hc, hm, hB, fun a ha => by rw [pset_same, ha]; simp⟩
theorem Lp.append {pv' : Value} {ss' : List Sy} (t : Lp w0 w io C L lc lp pb st r x X C2 base st2 r2 hv H pv ss R Wr p) (ho : OwnS w0.heap.size w' pv' ss') (hg : w.grownBy w' pv.ownBlock) (hl : pv'.ownBlock = pv.ownBlock ∨ pv'.ownBlock = some w.heap.size) :
    ∃ p', Lp w0 w' io C L lc lp pb st r x X C2 base st2 r2 hv H pv' ss' R Wr p' ∧ p' 4 = p 4 := by
  have hsz := hg.size
  have hk : ∀ a, a ≠ 3 → ∀ i ∈ p a, w'.heap[i]? = w.heap[i]? := fun a ha i hi => hg.block i (t.sep.lt a i hi) (fun hm => t.sep.dis 3 a t.wr.2.2 (fun e => ha e.symm) i (t.puts.2 i hm.symm) hi)
  have hY : ∀ i ∈ pv'.ownBlock.toList, (i ∈ p 3 ∨ w.heap.size ≤ i) ∧ i < w'.heap.size := by
    intro i hi
    simp only [Option.mem_toList] at hi
    refine ⟨?_, (ho.lt i hi).2⟩
    rcases hl with h | h
    · rw [h] at hi; exact .inl (t.puts.2 i hi)
    · rw [h] at hi; injection hi with hi; exact .inr (Nat.le_of_eq hi)
  have e : ∀ a, a ≠ 3 → pset p 3 pv'.ownBlock.toList a = p a := fun a ha => pset_ne _ ha
  refine ⟨pset p 3 pv'.ownBlock.toList, ⟨t.ms.keepAll hsz (fun i hi => hk 0 (by decide) i (by rw [t.p0]; exact hi)), by rw [e 0 (by decide)]; exact t.p0, by rw [e 1 (by decide)]; exact t.codKeep (hk 1 (by decide)), Nat.le_trans t.base hsz, ?_, ⟨ho, fun g h => by rw [pset_same]; simp [h]⟩, t.frame _ _ t.rest hsz (hk 4 (by decide)), ?_, t.sep.step 3 hsz t.below.size hY, t.wr, ?_⟩, e 4 (by decide)⟩
  · rw [e 2 (by decide)]; exact t.hist.keep hsz (hk 2 (by decide))
  · rw [e 4 (by decide)]; exact t.frame
  · exact below_grown t.below hg t.below.size (fun g e => t.sep.lo 3 (.inr (.inr rfl)) _ (t.puts.2 g e))
end
end Go.Proofs.Ytkckjjchfccdjaa
