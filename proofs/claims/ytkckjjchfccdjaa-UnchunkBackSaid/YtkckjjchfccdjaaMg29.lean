/- Several texts in one: UcMem, UcNext, UcStore, UcUd. -/
import Derived.Test.YtkckjjchfccdjaaMg17
import Derived.Test.YtkckjjchfccdjaaUmRead
import Derived.Laws.BitsAllLaws
/- Chunks read back: the reader in memory. -/
namespace Go.Proofs.Ytkckjjchfccdjaa
set_option maxRecDepth 100000
open Go.RowKit

/-- What a reading goes by, and never changes: the first place that is its own, the world it began in, the boxes of the bytes and of the place, the reader's block, the bytes, the dictionary. -/
structure UkP where
  base : Nat
  w0 : World
  bb : Nat
  ab : Nat
  R : Nat
  A : Option Addr
  B : List UInt8
  c : Nat
  dict : Int
/-- A reader's cells. -/
abbrev ukRow (dict : Int) (v : Value) (s : CkS) (cv : Value) : List Value :=
  [.int .i64 dict, v, .int .i64 (s.start : Nat), .bool s.clear, .bool s.asked, .int .i64 (s.lc : Nat), .int .i64 (s.lp : Nat), .int .i64 (s.pb : Nat), cv]
def CodU (base : Nat) (w : World) (cv : Value) (s : CkS) : Prop :=
  s.clear = true → s.asked = false → ∃ C L, cv = PF C ∧ (base ≤ C ∧ base ≤ L) ∧ ModAt w C L s.lc s.lp s.pb s.st s.r s.P ∧ permB (s.lc : Nat) (s.lp : Nat) (s.pb : Nat) = true ∧ s.st < 12 ∧ rGood s.r
structure UkB (k : UkP) (w : World) (pos : Nat) (s : CkS) (cv : Value) : Prop where
  boxB : w.heap[k.bb]? = some (.cells #[.slice k.A k.B.length k.c] 22 (0, 0))
  boxA : w.heap[k.ab]? = some (.cells [Value.int .i64 (pos : Nat)].toArray 3 (0, 0))
  row : ∃ v, w.heap[k.R]? = some (.cells (ukRow k.dict v s cv).toArray 43 (0, 0)) ∧ Own k.base w v s.out
  low : k.base ≤ k.bb ∧ k.base ≤ k.ab ∧ k.base ≤ k.R
  bytes : Bytes w k.A k.B ∧ ∀ a, k.A = some a → a.block < k.base
  nums : k.B.length ≤ k.c ∧ k.c ≤ 9223372036854775807 ∧ k.B.length ≤ 140737488355328 ∧ pos ≤ k.B.length ∧ s.start ≤ s.out.length
  below : Below k.base k.w0 w
  bsz : k.base ≤ k.w0.heap.size
def Uk (k : UkP) (w : World) (pos : Nat) (s : CkS) : Prop := ∃ cv, UkB k w pos s cv ∧ CodU k.base w cv s
theorem Own.neT {base : Nat} {W : World} {v : Value} {l : List UInt8} (h : Own base W v l) {j : Nat} {cs : Array Value} {t : TypeId} {x : Nat × Nat} (hj : W.heap[j]? = some (.cells cs t x)) (ht : t ≠ 5) : v.ownBlock ≠ some j := by
  intro he
  rcases h with ⟨_, ⟨rfl, _⟩ | ⟨g', cap', cur, rfl, _, h4, _⟩⟩
  · cases he
  · have e : g' = j := by simpa [Value.ownBlock] using he
    subst e
    rw [h4] at hj; injection hj with hj; injection hj with _ e2 _; exact ht e2.symm
theorem Own.typed {base : Nat} {w : World} {v : Value} {l : List UInt8} (h : Own base w v l) {g : Nat} (hg : v.ownBlock = some g) : ∃ cs x, w.heap[g]? = some (.cells cs 5 x) := by
  rcases h with ⟨_, ⟨rfl, _⟩ | ⟨g', cap', cur, rfl, _, h4, _⟩⟩
  · cases hg
  · have e : g' = g := by simpa [Value.ownBlock] using hg
    subst e
    exact ⟨_, _, h4⟩
theorem row_ne {W : World} {i j : Nat} {cs cs' : Array Value} {t t' : TypeId} {x x' : Nat × Nat} (h : W.heap[i]? = some (.cells cs t x)) (k : W.heap[j]? = some (.cells cs' t' x')) (ht : t ≠ t') : i ≠ j := by
  intro e
  subst e
  rw [h] at k; injection k with k; injection k with _ e2 _; exact ht e2
section
variable {k : UkP} {w w' : World} {pos : Nat} {s : CkS} {cv : Value}
/-- Nothing but what lies elsewhere was changed. -/
theorem UkB.keep (h : UkB k w pos s cv) (hb : Below k.base w w') (hX : ∀ (i : Nat) (cs : Array Value) (t : TypeId) (x : Nat × Nat), w.heap[i]? = some (Obj.cells cs t x) → (t = 22 ∨ t = 3 ∨ t = 43 ∨ t = 5) → w'.heap[i]? = w.heap[i]?) : UkB k w' pos s cv := by
  obtain ⟨v, hr, ho⟩ := h.row
  refine ⟨(hX _ _ _ _ h.boxB (.inl rfl)).trans h.boxB, (hX _ _ _ _ h.boxA (.inr (.inl rfl))).trans h.boxA, ⟨v, (hX _ _ _ _ hr (.inr (.inr (.inl rfl)))).trans hr, ho.keepB fun g hg => ?_⟩, h.low, ⟨?_, h.bytes.2⟩, h.nums, h.below.trans hb, h.bsz⟩
  · obtain ⟨cs, x, hc⟩ := ho.typed hg
    exact hX _ _ _ _ hc (.inr (.inr (.inr rfl)))
  · refine h.bytes.1.keep hb.size fun p hp _ => hb.cell ?_
    cases hA : k.A with
    | none => rw [hA] at hp; cases hp
    | some a =>
      rw [hA] at hp
      have e : a.block = p.block := by simpa using hp
      rw [← e]; exact h.bytes.2 a hA
theorem UkB.of_below (h : UkB k w pos s cv) (hb : Below w.heap.size w w') : UkB k w' pos s cv :=
  h.keep (hb.mono (Nat.le_trans h.bsz h.below.size)) fun i _ _ _ hi _ => hb.block i (Array.getElem?_eq_some_iff.1 hi).1
theorem CodU.keep {base : Nat} (h : CodU base w cv s) (hX : ∀ (i : Nat) (cs : Array Value) (t : TypeId) (x : Nat × Nat), w.heap[i]? = some (Obj.cells cs t x) → (t = 121 ∨ t = 171) → w'.heap[i]? = w.heap[i]?) : CodU base w' cv s := by
  intro h1 h2
  obtain ⟨C, L, e, hb, hM, hp⟩ := h h1 h2
  obtain ⟨T, hT, _⟩ := hM.box
  obtain ⟨l, hl, _⟩ := hM.lits
  exact ⟨C, L, e, hb, hM.keep (hX _ _ _ _ hT (.inl rfl)) (hX _ _ _ _ hl (.inr rfl)), hp⟩
theorem CodU.of_below {base : Nat} (h : CodU base w cv s) (hb : Below w.heap.size w w') : CodU base w' cv s := h.keep fun i _ _ _ hi _ => hb.block i (Array.getElem?_eq_some_iff.1 hi).1
/-- A store into a block of another kind. -/
theorem CodU.set {base : Nat} (h : CodU base w cv s) {p : Addr} {cs : Array Value} {t : TypeId} {x : Nat × Nat} (hp : w.heap[p.block]? = some (.cells cs t x)) (h1 : t ≠ 121) (h2 : t ≠ 171) (u : Value) : CodU base (w.setCell p u) cv s :=
  h.keep fun i _ t' _ hi ht => heap_setCell_other _ _ _ _ (row_ne hi hp (by rcases ht with rfl | rfl <;> (first | exact fun e => h1 e.symm | exact fun e => h2 e.symm)))
theorem CodU.same {base : Nat} {s' : CkS} (h : CodU base w cv s) (h1 : s'.clear = s.clear) (h2 : s'.asked = s.asked) (h3 : s'.lc = s.lc ∧ s'.lp = s.lp ∧ s'.pb = s.pb ∧ s'.st = s.st ∧ s'.r = s.r ∧ s'.P = s.P) : CodU base w cv s' := by
  unfold CodU at *
  obtain ⟨e1, e2, e3, e4, e5, e6⟩ := h3
  rw [h1, h2, e1, e2, e3, e4, e5, e6]; exact h
theorem Uk.of_below (h : Uk k w pos s) (hb : Below w.heap.size w w') : Uk k w' pos s := by
  obtain ⟨cv, h1, h2⟩ := h
  exact ⟨cv, h1.of_below hb, h2.of_below hb⟩
theorem UkB.cells (h : UkB k w pos s cv) : ∃ v, (w.cell? ⟨k.R, 0, none⟩ = some (.int .i64 k.dict) ∧ w.cell? ⟨k.R, 1, none⟩ = some v ∧ w.cell? ⟨k.R, 2, none⟩ = some (.int .i64 (s.start : Nat)) ∧ w.cell? ⟨k.R, 3, none⟩ = some (.bool s.clear) ∧ w.cell? ⟨k.R, 4, none⟩ = some (.bool s.asked) ∧ w.cell? ⟨k.R, 5, none⟩ = some (.int .i64 (s.lc : Nat)) ∧ w.cell? ⟨k.R, 6, none⟩ = some (.int .i64 (s.lp : Nat)) ∧ w.cell? ⟨k.R, 7, none⟩ = some (.int .i64 (s.pb : Nat)) ∧ w.cell? ⟨k.R, 8, none⟩ = some cv) ∧ Own k.base w v s.out ∧ ∀ i, w.frozen? ⟨k.R, i, none⟩ = false := by
  obtain ⟨v, hr, ho⟩ := h.row
  refine ⟨v, ⟨?_, ?_, ?_, ?_, ?_, ?_, ?_, ?_, ?_⟩, ho, fun i => frozen_of_row _ _ _ _ _ hr⟩ <;> (rw [cell_of_row w _ _ _ _ _ hr]; rfl)
theorem UkB.boxes (h : UkB k w pos s cv) : w.cell? ⟨k.bb, 0, none⟩ = some (.slice k.A k.B.length k.c) ∧ w.cell? ⟨k.ab, 0, none⟩ = some (.int .i64 (pos : Nat)) ∧ w.frozen? ⟨k.ab, 0, none⟩ = false ∧ k.bb ≠ k.ab := by
  refine ⟨?_, ?_, frozen_of_row _ _ _ _ _ h.boxA, row_ne h.boxB h.boxA (by decide)⟩
  · rw [cell_of_row w _ _ _ _ _ h.boxB]; rfl
  · rw [cell_of_row w _ _ _ _ _ h.boxA]; rfl
/-- The place is told on. -/
theorem UkB.setPos (h : UkB k w pos s cv) {p : Nat} (hp : p ≤ k.B.length) : UkB k (w.setCell ⟨k.ab, 0, none⟩ (.int .i64 (p : Nat))) p s cv := by
  obtain ⟨v, hr, ho⟩ := h.row
  have hB : Below k.base k.w0 (w.setCell ⟨k.ab, 0, none⟩ (.int .i64 (p : Nat))) := h.below.setCell (p := ⟨k.ab, 0, none⟩) h.low.2.1 _
  refine ⟨(heap_setCell_other _ _ _ _ (row_ne h.boxB h.boxA (by decide))).trans h.boxB, heap_set h.boxA 0 _, ⟨v, (heap_setCell_other _ _ _ _ (row_ne hr h.boxA (by decide))).trans hr, ho.keepB fun g hg => heap_setCell_other _ _ _ _ (fun e => ho.neT h.boxA (by decide) (by rw [hg, e]))⟩, h.low, ⟨?_, h.bytes.2⟩, ⟨h.nums.1, h.nums.2.1, h.nums.2.2.1, hp, h.nums.2.2.2.2⟩, hB, h.bsz⟩
  refine h.bytes.1.keep (by simp) fun q hq _ => World.cell?_setCell_far _ _ _ _ ?_
  cases hA : k.A with
  | none => rw [hA] at hq; cases hq
  | some a =>
    rw [hA] at hq
    have e : a.block = q.block := by simpa using hq
    have := h.bytes.2 a hA
    have := h.low.2.1
    show k.ab ≠ q.block
    omega
/-- A store into the reader. -/
theorem UkB.put (h : UkB k w pos s cv) (i : Nat) (u : Value) {s' : CkS} {cv' : Value} (hrow : ∀ v, (ukRow k.dict v s cv).set i u = ukRow k.dict v s' cv') (ho' : s'.out = s.out) (hst : s'.start ≤ s'.out.length) : UkB k (w.setCell ⟨k.R, i, none⟩ u) pos s' cv' := by
  obtain ⟨v, hr, ho⟩ := h.row
  have hB : Below k.base k.w0 (w.setCell ⟨k.R, i, none⟩ u) := h.below.setCell (p := ⟨k.R, i, none⟩) h.low.2.2 _
  refine ⟨(heap_setCell_other _ _ _ _ (row_ne h.boxB hr (by decide))).trans h.boxB, (heap_setCell_other _ _ _ _ (row_ne h.boxA hr (by decide))).trans h.boxA, ⟨v, by rw [← hrow v]; exact heap_set hr i u, ?_⟩, h.low, ⟨?_, h.bytes.2⟩, ⟨h.nums.1, h.nums.2.1, h.nums.2.2.1, h.nums.2.2.2.1, hst⟩, hB, h.bsz⟩
  · rw [ho']; exact ho.keepB fun g hg => heap_setCell_other _ _ _ _ (fun e => ho.neT hr (by decide) (by rw [hg, e]))
  · refine h.bytes.1.keep (by simp) fun q hq _ => World.cell?_setCell_far _ _ _ _ ?_
    cases hA : k.A with
    | none => rw [hA] at hq; cases hq
    | some a =>
      rw [hA] at hq
      have e : a.block = q.block := by simpa using hq
      have := h.bytes.2 a hA
      have := h.low.2.2
      show k.R ≠ q.block
      omega
/-- The bytes that were read, told on. -/
theorem UkB.putOut (h : UkB k w pos s cv) {v' : Value} {out' : List UInt8} (ho' : Own k.base w v' out') (hl : s.out.length ≤ out'.length) : UkB k (w.setCell ⟨k.R, 1, none⟩ v') pos { s with out := out' } cv := by
  obtain ⟨v, hr, ho⟩ := h.row
  have hB : Below k.base k.w0 (w.setCell ⟨k.R, 1, none⟩ v') := h.below.setCell (p := ⟨k.R, 1, none⟩) h.low.2.2 _
  refine ⟨(heap_setCell_other _ _ _ _ (row_ne h.boxB hr (by decide))).trans h.boxB, (heap_setCell_other _ _ _ _ (row_ne h.boxA hr (by decide))).trans h.boxA, ⟨v', heap_set hr 1 v', ?_⟩, h.low, ⟨?_, h.bytes.2⟩, ⟨h.nums.1, h.nums.2.1, h.nums.2.2.1, h.nums.2.2.2.1, Nat.le_trans h.nums.2.2.2.2 hl⟩, hB, h.bsz⟩
  · exact ho'.keepB fun g hg => heap_setCell_other _ _ _ _ (fun e => ho'.neT hr (by decide) (by rw [hg, e]))
  · refine h.bytes.1.keep (by simp) fun q hq _ => World.cell?_setCell_far _ _ _ _ ?_
    cases hA : k.A with
    | none => rw [hA] at hq; cases hq
    | some a =>
      rw [hA] at hq
      have e : a.block = q.block := by simpa using hq
      have := h.bytes.2 a hA
      have := h.low.2.2
      show k.R ≠ q.block
      omega
end
/-- What a step of the reading comes to. -/
def CkDone (k : UkP) (x : CkR) (e : Ending) (w' : World) : Prop :=
  match x with
  | .bad n => e = .returned (.int .i64 (n : Nat)) ∧ Below k.base k.w0 w'
  | .go pos s => e = .returned (.int .i64 0) ∧ Uk k w' pos s
end Go.Proofs.Ytkckjjchfccdjaa

/- Chunks read back: the next bytes; the number of ckTwo bytes. -/
namespace Go.Proofs.Ytkckjjchfccdjaa
set_option maxRecDepth 100000
open Go.RowKit

def NextShort (w : World) (e : Ending) (w' : World) : Prop := e = .returned (.tuple #[.slice none 0 0, .int .i64 2]) ∧ w = w'
def NextGood (k : UkP) (pos n : Nat) (s : CkS) (cv : Value) (w : World) (e : Ending) (w' : World) : Prop :=
  ∃ AP cP, e = .returned (.tuple #[.slice AP n cP, .int .i64 0]) ∧ (n ≤ cP ∧ cP ≤ 9223372036854775807) ∧ (Bytes w' AP ((k.B.drop pos).take n) ∧ ∀ a, AP = some a → a.block < k.base) ∧ UkB k w' (pos + n) s cv ∧ (∀ s' cv', CodU k.base w cv' s' → CodU k.base w' cv' s')
abbrev NextV (k : UkP) : Value := .func (.func 10) #[] #[PF k.bb, PF k.ab]
set_option maxHeartbeats 1000000 in
theorem next_short {k : UkP} {w : World} {pos : Nat} {s : CkS} {cv : Value} (h : UkB k w pos s cv) (n : Nat) (hn : n ≤ 1000000) (hl : k.B.length < pos + n) : Calls Try.prog 10 #[.int .i64 (n : Nat), PF k.bb, PF k.ab] w (NextShort w) := by
  obtain ⟨b0, b1, b2, hne⟩ := h.boxes
  obtain ⟨n1, n2, n3, n4, _⟩ := h.nums
  obtain ⟨L, hL⟩ : ∃ L, k.B.length = L := ⟨_, rfl⟩
  rw [hL] at b0 hl n1 n3 n4
  have hli : (L : Int) - (pos : Int) < (n : Int) := by omega
  have hlb : decide ((L : Int) - (pos : Int) < (n : Int)) = true := decide_eq_true hli
  have hni : (n : Int) ≤ 1000000 := by omega
  have hpi : (pos : Int) ≤ (L : Int) := by omega
  have hLi : (L : Int) ≤ 140737488355328 := by omega
  clear h hL
  go_enter Try.func10, Try.ntmps10
  go_wp2_with fail
  go_ret2
  exact ⟨rfl, rfl⟩
set_option maxHeartbeats 2000000 in
theorem next_good {k : UkP} {w : World} {pos : Nat} {s : CkS} {cv : Value} (h : UkB k w pos s cv) (n : Nat) (hn : n ≤ 1000000) (hl : pos + n ≤ k.B.length) : Calls Try.prog 10 #[.int .i64 (n : Nat), PF k.bb, PF k.ab] w (NextGood k pos n s cv w) := by
  obtain ⟨b0, b1, b2, hne⟩ := h.boxes
  obtain ⟨n1, n2, n3, n4, _⟩ := h.nums
  have hset := h.setPos (p := pos + n) hl
  have hcod : ∀ s' cv', CodU k.base w cv' s' → CodU k.base (w.setCell ⟨k.ab, 0, none⟩ (.int .i64 ((pos + n : Nat) : Nat))) cv' s' := fun s' cv' hc => hc.set (p := ⟨k.ab, 0, none⟩) h.boxA (by decide) (by decide) _
  obtain ⟨q, hq⟩ : ∃ q, pos + n = q := ⟨_, rfl⟩
  rw [hq] at hset hcod hl
  have hby := hset.bytes
  have hcut := (hby.1.cutFrom (k := pos) n4 n1).take n
  obtain ⟨AP, hAP⟩ : ∃ AP, (if k.c = pos then k.A else k.A.map (·.add pos)) = AP := ⟨_, rfl⟩
  rw [hAP] at hcut
  have hcl : ∀ a, AP = some a → a.block < k.base := by
    intro a ha
    rw [← hAP] at ha
    split at ha
    · exact hby.2 a ha
    · cases hA : k.A with
      | none => rw [hA] at ha; cases ha
      | some a' =>
        rw [hA] at ha
        have e : a'.add pos = a := by simpa using ha
        rw [← e]; exact (show (a'.add pos).block = a'.block from by unfold Addr.add; split <;> rfl) ▸ hby.2 a' hA
  have HAP := Lib.hid hAP
  have HFIN := Lib.hid (And.intro hset (And.intro hcod (And.intro hcut hcl)))
  have b0' := hset.boxes.1
  have b1' := hset.boxes.2.1
  have HQ := Lib.hid hq
  obtain ⟨L, hL⟩ : ∃ L, k.B.length = L := ⟨_, rfl⟩
  rw [hL] at b0 b0' hl n1 n3 n4
  have hpq : (pos : Int) + (n : Int) = (q : Int) := by omega
  have hqp : (q : Int) - (n : Int) = (pos : Int) := by omega
  have hpqi : (pos : Int) ≤ (q : Int) := by omega
  have hqL : (q : Int) ≤ (L : Int) := by omega
  have hLc : (L : Int) ≤ (k.c : Int) := by omega
  have hci : (k.c : Int) ≤ 9223372036854775807 := by omega
  have hlb : decide ((L : Int) - (pos : Int) < (n : Int)) = false := decide_eq_false (by omega)
  have hni : (n : Int) ≤ 1000000 := by omega
  have hpi : (pos : Int) ≤ (L : Int) := by omega
  have hLi : (L : Int) ≤ 140737488355328 := by omega
  have hdiff : q - pos = n := by omega
  have HN := Lib.hid (show n ≤ k.c - pos ∧ k.c - pos ≤ 9223372036854775807 by omega)
  clear h hL hset hcod hby hcut hAP hcl hq hl n1 n2 n3 n4
  go_enter Try.func10, Try.ntmps10
  go_wp2_with fail
  all_goals go_ret2
  · refine ⟨AP, 0, ?_, ⟨by omega, by omega⟩, HFIN.out.2.2, by rw [HQ.out]; exact HFIN.out.1, HFIN.out.2.1⟩
    rw [← HAP.out, if_pos (by first | assumption | omega)]; try rfl
  · refine ⟨AP, k.c - pos, ?_, HN.out, HFIN.out.2.2, by rw [HQ.out]; exact HFIN.out.1, HFIN.out.2.1⟩
    rw [← HAP.out, if_neg (by assumption)]; try rfl
/-- Two bytes' number, as shifted. -/
theorem ckTwo_bits (a b : Nat) (ha : a < 256) (hb : b < 256) : bits .or .i64 ((a : Int) * 256) (b : Int) = ((256 * a + b : Nat) : Int) := by
  show IntKind.i64.wrap ((BitVec.ofInt 64 ((a : Int) * 256) ||| BitVec.ofInt 64 (b : Int)).toNat : Int) = _
  have h1 : (BitVec.ofInt 64 ((a : Int) * 256)).toNat = a * 256 := by rw [BitVec.toNat_ofInt]; omega
  have h2 : (BitVec.ofInt 64 (b : Int)).toNat = b := by rw [BitVec.toNat_ofInt]; omega
  have h3 := or_add a b 8 hb
  rw [BitVec.toNat_or, h1, h2, show (256 : Nat) = 2 ^ 8 by decide, h3]
  unfold IntKind.wrap
  simp [IntKind.bits, IntKind.signed]
  omega
set_option maxHeartbeats 1000000 in
theorem uctwo_any (A : Option Addr) (l : List UInt8) (c : Nat) (w : World) (hB : Bytes w A l) (h : 2 ≤ l.length) : Calls Try.prog 38 #[.slice A l.length c] w fun e w' => e = .returned (.int .i64 (ckTwo l 0 : Nat)) ∧ Below w.heap.size w w' := by
  obtain ⟨b, off, rfl, hb, hc⟩ := hB.addr (by omega)
  clear hB
  have k0 := hc 0 (by omega)
  have k1 := hc 1 (by omega)
  rw [Nat.add_zero] at k0
  have e0 := getD_of (d := l) (i := 0) (by omega)
  have e1 := getD_of (d := l) (i := 1) (by omega)
  have hR : ckTwo l 0 = 256 * (l.getD 0 0).toNat + (l.getD 1 0).toNat := rfl
  rw [← e0] at k0
  rw [← e1] at k1
  rw [hR]
  have l0 := (l.getD 0 0).toNat_lt
  have l1 := (l.getD 1 0).toNat_lt
  clear hc e0 e1 hR
  generalize l.getD 0 0 = x at *
  generalize l.getD 1 0 = y at *
  generalize l.length = L at *
  have HTB := ckTwo_bits x.toNat y.toNat l0 l1
  have hx : (x.toNat : Int) < 256 := by omega
  have hL : (2 : Int) ≤ (L : Int) := by omega
  have hw : wrap64 ((x.toNat : Int) * 256) = (x.toNat : Int) * 256 := by unfold wrap64; omega
  go_enter Try.func38, Try.ntmps38
  go_wp2_with fail
  go_quiet (fail)
  go_wp2_with fail
  go_ret
  exact ⟨rfl, below_drewN (Below.refl _ _) _⟩
end Go.Proofs.Ytkckjjchfccdjaa

/- Chunks read back: a stored chunk. -/
namespace Go.Proofs.Ytkckjjchfccdjaa
set_option maxRecDepth 100000
open Go.RowKit

theorem Own.shape {base : Nat} {w : World} {v : Value} {l : List UInt8} (h : Own base w v l) : ∃ A n c, v = .slice A n c := by
  obtain ⟨A, c, e, _⟩ := h.read
  exact ⟨A, _, c, e⟩
/-- Bytes are appended to what was read. -/
theorem UkB.append {k : UkP} {w w' : World} {pos : Nat} {s : CkS} {cv v v' : Value} {m : List UInt8} (h : UkB k w pos s cv) (hr : w.cell? ⟨k.R, 1, none⟩ = some v) (hg : w.grownBy w' v.ownBlock) (ho' : Own k.base w' v' (s.out ++ m)) :
    UkB k (w'.setCell ⟨k.R, 1, none⟩ v') pos { s with out := s.out ++ m } cv ∧ (∀ s' cv', CodU k.base w cv' s' → CodU k.base (w'.setCell ⟨k.R, 1, none⟩ v') cv' s') ∧ w'.frozen? ⟨k.R, 1, none⟩ = false ∧ w'.cell? ⟨k.R, 1, none⟩ = some v := by
  obtain ⟨v0, hrow, ho⟩ := h.row
  have e : v0 = v := by
    rw [cell_of_row w _ _ _ _ _ hrow] at hr
    injection hr
  subst e
  have up : ∀ {i : Nat} {cs : Array Value} {t : TypeId} {x : Nat × Nat}, w.heap[i]? = some (.cells cs t x) → t ≠ 5 → w'.heap[i]? = w.heap[i]? := fun hi ht => hg.block _ (Array.getElem?_eq_some_iff.1 hi).1 (fun e => ho.neT hi ht e.symm)
  have hb := h.below.grown hg (Nat.le_trans h.bsz h.below.size) (fun g e => (ho.from_base g e).1)
  have hrow' := (up hrow (by decide)).trans hrow
  have hB : Below k.base k.w0 (w'.setCell ⟨k.R, 1, none⟩ v') := hb.setCell (p := ⟨k.R, 1, none⟩) h.low.2.2 _
  refine ⟨⟨(heap_setCell_other _ _ _ _ (row_ne h.boxB hrow (by decide))).trans ((up h.boxB (by decide)).trans h.boxB), (heap_setCell_other _ _ _ _ (row_ne h.boxA hrow (by decide))).trans ((up h.boxA (by decide)).trans h.boxA), ⟨v', heap_set hrow' 1 v', ho'.keepB fun g hg' => heap_setCell_other _ _ _ _ (fun e => ho'.neT hrow' (by decide) (by rw [hg', e]))⟩, h.low, ⟨?_, h.bytes.2⟩, ⟨h.nums.1, h.nums.2.1, h.nums.2.2.1, h.nums.2.2.2.1, ?_⟩, hB, h.bsz⟩, fun s' cv' hc => ?_, frozen_of_row _ _ _ _ _ hrow', by rw [cell_of_row w' _ _ _ _ _ hrow']; rfl⟩
  · have hbase := Nat.le_trans h.bsz h.below.size
    refine h.bytes.1.keep (Nat.le_trans hg.size (by simp)) fun q hq _ => ?_
    have hqb : q.block < k.base := by
      cases hA : k.A with
      | none => rw [hA] at hq; cases hq
      | some a =>
        rw [hA] at hq
        have e : a.block = q.block := by simpa using hq
        rw [← e]; exact h.bytes.2 a hA
    refine (World.cell?_setCell_far _ _ _ _ (by have := h.low.2.2; show k.R ≠ q.block; omega)).trans ?_
    exact World.cell?_of_block (hg.block _ (by omega) (fun e => by have := (ho.from_base _ e.symm).1; omega))
  · have := h.nums.2.2.2.2
    show s.start ≤ (s.out ++ m).length
    rw [List.length_append]; omega
  · exact (hc.keep fun i cs t x hi ht => up hi (by rcases ht with rfl | rfl <;> decide)).set (p := ⟨k.R, 1, none⟩) hrow' (by decide) (by decide) _
/-- Two bytes' number, of bytes cut out. -/
theorem uctwo_at {k : UkP} {w : World} {A : Option Addr} {p n c i : Nat} (hB : Bytes w A (((k.B.drop p).take n).drop i)) (hp : p + n ≤ k.B.length) (hi : i + 2 ≤ n) : Calls Try.prog 38 #[.slice A (n - i) c] w fun e w' => e = .returned (.int .i64 (ckTwo k.B (p + i) : Nat)) ∧ Below w.heap.size w w' := by
  have hl : (((k.B.drop p).take n).drop i).length = n - i := by simp; omega
  have h := uctwo_any A _ c w hB (by omega)
  rw [hl] at h
  have e : ckTwo (((k.B.drop p).take n).drop i) 0 = ckTwo k.B (p + i) := by
    rw [← ckTwo_cut k.B (k := p) (n := n) (i := i) hi]
    unfold ckTwo
    simp only [List.getD_eq_getElem?_getD, List.getElem?_drop, Nat.add_zero]
  rw [e] at h
  exact h
set_option maxHeartbeats 2000000 in
theorem stored_any {k : UkP} {w : World} {pos : Nat} {s : CkS} (h : Uk k w pos s) (ho : s.out.length ≤ 400000000) : Calls Try.prog 20 #[PF k.R, NextV k] w (CkDone k (unstore k.B pos s)) := by
  obtain ⟨cv, hU, hC⟩ := h
  have HU := Lib.hid hU
  have HC := Lib.hid hC
  have HO := Lib.hid ho
  clear hU hC ho
  obtain ⟨t, ht⟩ : ∃ t, ckTwo k.B pos = t := ⟨_, rfl⟩
  have htl : t < 65536 := by rw [← ht]; exact ckTwo_lt _ _
  by_cases h1 : k.B.length < pos + 2
  · have HN := Lib.hid (next_short HU.out 2 (by decide) h1)
    have hres : unstore k.B pos s = .bad 2 := by unfold unstore; rw [if_pos h1]
    have HR := Lib.hid hres
    clear hres h1 ht htl
    go_enter Try.func20, Try.ntmps20
    go_wp2_with fail
    refine HN.out.mono ?_
    rintro e w1 ⟨rfl, rfl⟩
    go_wp2_with fail
    go_ret
    rw [HR.out]
    exact ⟨rfl, HU.out.below⟩
  · have HN := Lib.hid (next_good HU.out 2 (by decide) (by omega))
    obtain ⟨n, hn⟩ : ∃ n, t + 1 = n := ⟨_, rfl⟩
    have hti : (t : Int) + 1 = (n : Int) := by omega
    have hni : (n : Int) ≤ 65536 := by omega
    have hn2 : n ≤ 65536 := by omega
    by_cases h2 : k.B.length < pos + 2 + n
    · have hres : unstore k.B pos s = .bad 2 := by unfold unstore; rw [if_neg h1, ht, hn, if_pos h2]
      have HR := Lib.hid hres
      have HT := Lib.hid ht
      have H2 := Lib.hid (And.intro h1 (And.intro h2 hn2))
      clear hres h1 h2 hn ht htl hn2
      go_enter Try.func20, Try.ntmps20
      go_wp2_with fail
      refine HN.out.mono ?_
      rintro e w1 ⟨A1, c1, rfl, hc1, hB1, hU1, hC1⟩
      have HTW := Lib.hid (uctwo_at (k := k) (i := 0) (c := c1) hB1.1 (by have := H2.out; omega) (by decide))
      rw [Nat.add_zero, HT.out] at HTW
      have HU1 := Lib.hid hU1
      have hc1i : (2 : Int) ≤ (c1 : Int) := by omega
      clear hB1 hU1 hC1 hc1
      go_wp2_with fail
      refine HTW.out.mono ?_
      rintro e w2 ⟨rfl, hb2⟩
      have HN2 := Lib.hid (next_short (HU1.out.of_below hb2) n (by have := H2.out; omega) (by have := H2.out; omega))
      have HU2 := Lib.hid (HU1.out.of_below hb2)
      clear hb2
      go_wp2_with fail
      refine HN2.out.mono ?_
      rintro e w3 ⟨rfl, rfl⟩
      go_wp2_with fail
      go_ret
      rw [HR.out]
      exact ⟨rfl, HU2.out.below⟩
    · have hres : unstore k.B pos s = .go (pos + 2 + n) { s with out := s.out ++ (k.B.drop (pos + 2)).take n } := by unfold unstore; rw [if_neg h1, ht, hn, if_neg h2]
      have HR := Lib.hid hres
      have HT := Lib.hid ht
      have H2 := Lib.hid (And.intro h1 (And.intro h2 hn2))
      clear hres h1 h2 hn ht htl hn2
      go_enter Try.func20, Try.ntmps20
      go_wp2_with fail
      refine HN.out.mono ?_
      rintro e w1 ⟨A1, c1, rfl, hc1, hB1, hU1, hC1⟩
      have HTW := Lib.hid (uctwo_at (k := k) (i := 0) (c := c1) hB1.1 (by have := H2.out; omega) (by decide))
      rw [Nat.add_zero, HT.out] at HTW
      have HU1 := Lib.hid (And.intro hU1 hC1)
      have hc1i : (2 : Int) ≤ (c1 : Int) := by omega
      clear hB1 hU1 hC1 hc1
      go_wp2_with fail
      refine HTW.out.mono ?_
      rintro e w2 ⟨rfl, hb2⟩
      have HN2 := Lib.hid (next_good (HU1.out.1.of_below hb2) n (by have := H2.out; omega) (by have := H2.out; omega))
      have HC2 := Lib.hid ((HU1.out.2 _ _ HC.out).of_below hb2)
      clear hb2
      go_wp2_with fail
      refine HN2.out.mono ?_
      rintro e w3 ⟨A3, c3, rfl, hc3, hB3, hU3, hC3⟩
      obtain ⟨v, ⟨_, r1, _, _, _, _, _, _, _⟩, hov, hfr⟩ := hU3.cells
      have hf1 := hfr 1
      have hl3 : ((k.B.drop (pos + 2)).take n).length = n := by have := H2.out; simp; omega
      have hbs := Nat.le_trans hU3.bsz hU3.below.size
      have HX := Lib.hid (And.intro hU3 (And.intro (hC3 _ _ HC2.out) (And.intro hov (And.intro hB3.1 (And.intro hl3 (And.intro hbs (hU3.low.2.2)))))))
      have HR1 := Lib.hid r1
      clear hfr hov hU3 hC3 hB3 hl3 hbs hc3
      go_upto_region 7 with fail
      go_wp2_with (at_builtin; refine wpList_append_bytes rfl (.tmp 31) (.tmp 32) rfl k.base w3 v _ rfl HX.out.2.2.1 A3 ((k.B.drop (pos + 2)).take n) c3 (by rw [HX.out.2.2.2.2.1]; rfl) HX.out.2.2.2.1 (by have := HX.out.2.2.2.2.1; have := HO.out; have := H2.out; omega) HX.out.2.2.2.2.2.1 ?_; intro v' w4 ho4 hg4; obtain ⟨A4, n4, c4, e4⟩ := ho4.shape; subst e4; obtain ⟨hU4, hC4, hf4, hc4⟩ := HX.out.1.append HR1.out hg4 ho4; have HU4 := Lib.hid hU4; have HC4 := Lib.hid (hC4 _ _ HX.out.2.1); clear hU4 hC4 ho4 hg4)
      go_ret
      rw [HR.out]
      exact ⟨rfl, _, HU4.out, HC4.out.same rfl rfl ⟨rfl, rfl, rfl, rfl, rfl, rfl⟩⟩
end Go.Proofs.Ytkckjjchfccdjaa

/- Chunks read back: what unmodel's Read comes to, behind any coder. -/
namespace Go.Proofs.Ytkckjjchfccdjaa
set_option maxRecDepth 100000
open Go.RowKit

def UdDone (g o cap : Nat) (L : List UInt8) (C Lb lc lp pb h : Nat) (res : Option (List UInt8 × Nat × R4 × PD)) (w : World) (e : Ending) (w' : World) : Prop :=
  match res with
  | none => e = .returned (.tuple #[.slice none 0 0, .int .i64 6]) ∧ Only [C, Lb, g, o] w w'
  | some (T, st, r, y) => ∃ A c, e = .returned (.tuple #[.slice A (T.drop h).length c, .int .i64 0]) ∧ ((T.drop h).length ≤ c ∧ c ≤ 9223372036854775807) ∧ Bytes w' A (T.drop h) ∧ ModAt w' C Lb lc lp pb st r y.1 ∧ DecIs w' g o cap L y.2 ∧ Only [C, Lb, g, o] w w' ∧ st < 12 ∧ rGood r
theorem udread_any {g o cap : Nat} {L : List UInt8} {C Lb lc lp pb st : Nat} {r : R4} {P : Nat → Nat} {w : World} (hM : ModAt w C Lb lc lp pb st r P) (hD : DecIs w g o cap L (Rd.start L)) (h5 : 5 ≤ L.length ∧ L.length ≤ 140737488355328) (hne : C ≠ g ∧ C ≠ o ∧ Lb ≠ g ∧ Lb ≠ o) (hlc : lc ≤ 4) (hlp : lp ≤ 4) (hpb : pb ≤ 4) (hst : st < 12) (hr : rGood r)
    (A : Option Addr) (H : List UInt8) (c : Nat) (hB : Bytes w A H) (hc : H.length ≤ c) (hH : H.length ≤ 400000000) (many : Nat) (hmany : many ≤ 400000000) (dict : Int) (hd1 : 1 ≤ dict) (hd2 : dict ≤ 9223372036854775807) :
    Calls Try.prog 52 #[PF g, PF C, .slice A H.length c, .int .i64 (many : Nat), .int .i64 dict] w (UdDone g o cap L C Lb lc lp pb H.length (uread 0 0 0 L lc lp pb dict (H.length + many) many H st r (P, Rd.start L)) w) := by
  have hms : MS (decIo g o cap L) w C Lb lc lp pb st r (P, Rd.start L) [g, o] := ⟨hM, ⟨rfl, hD⟩, by simp; omega, by simp; omega⟩
  have hrd := umread_big hms hlc hlp hpb hst hr ⟨Rd.start_ok h5.1, h5.2⟩ A H c hB hc (by omega) many (by omega) dict hd1 hd2
  have hp : rPos r := hr.1
  have hcut := uread_cutG (gd := g) (o := o) (cap := cap) (L := L) (lc := lc) (dict := dict) hlp hpb H many st r (P, Rd.start L) hp
  have hcl := cutOf_le H.length (show 0 ≤ max dict r.1 by have := hp.1; omega)
  rw [uread_addr (gd := g) (o := o) (cap := cap) many H] at hcut
  obtain ⟨RES, hRES⟩ : ∃ R, uread 0 0 0 L lc lp pb dict (H.length + many) many H st r (P, Rd.start L) = R := ⟨_, rfl⟩
  obtain ⟨cut, hce⟩ : ∃ n, cutOf H.length (max dict r.1) = n := ⟨_, rfl⟩
  rw [hRES] at hcut ⊢
  rw [hce] at hcut hrd hcl
  refine hrd.mono fun e w' hd => ?_
  have hd2 : UmDone g o cap L C Lb lc lp pb [g, o] (H.length - cut) (RES.map fun q => (q.1.drop cut, q.2)) w e w' ∧ UmFine (RES.map fun q => (q.1.drop cut, q.2)) := Eq.mp (congrArg (fun res => UmDone g o cap L C Lb lc lp pb [g, o] (H.length - cut) res w e w' ∧ UmFine res) hcut) hd
  clear hd
  cases RES with
  | none => exact hd2.1
  | some q =>
    obtain ⟨T, st', r', y'⟩ := q
    obtain ⟨hd3, hf⟩ := hd2
    obtain ⟨h12, hrg⟩ := hf _ rfl
    obtain ⟨A9, c9, rfl, hc9, hm9, hB9, X9, hM9, hon9, _⟩ := (show UmDone g o cap L C Lb lc lp pb [g, o] (H.length - cut) (some (T.drop cut, st', r', y')) w e w' from hd3)
    have e1 : (T.drop cut).drop (H.length - cut) = T.drop H.length := by rw [List.drop_drop, show cut + (H.length - cut) = H.length by omega]
    have e2 : (T.drop cut).length - (H.length - cut) = (T.drop H.length).length := by
      rw [List.length_drop, List.length_drop]; omega
    rw [e1] at hB9
    rw [e2] at hc9
    obtain rfl : X9 = [g, o] := hM9.io.1
    exact ⟨A9, c9, by rw [e2], ⟨hc9, hm9⟩, hB9, hM9.mod, hM9.io.2, hon9, h12, hrg⟩
end Go.Proofs.Ytkckjjchfccdjaa
