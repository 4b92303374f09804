/- Several texts in one: UrMem, UrTwo. -/
import Derived.Test.YtkckjjchfccdjaaMg21
import Derived.Test.YtkckjjchfccdjaaQrRead
import Derived.Test.YtkckjjchfccdjaaMg1
/- Chunks read back, by the document: its Reader in memory. -/
namespace Go.Proofs.Ytkckjjchfccdjaa
set_option maxRecDepth 100000
open Go.RowKit

theorem step_app_bytes {ops : Array Oper} {o : Oper} {a : Act} {K : Act → World → Prop} {Q : Exit → Act → World → Prop} (hgd : o.guard = none) (s x : Operand)
    (ho : o.op = .call { callee := .builtin .append, args := #[s, x], argTypes := #[22, 22] })
    (base : Nat) (w : World) (v : Value) (xs : List UInt8) (hs : a.eval s = v) (hown : Own base w v xs) (A : Option Addr) (l : List UInt8) (c : Nat) (hx : a.eval x = .slice A l.length c) (hB : Bytes w A l)
    (hsz : xs.length + l.length ≤ 140737488355328) (hbase : base ≤ w.heap.size)
    (h : ∀ v' w', Own base w' v' (xs ++ l) → w.grownBy w' v.ownBlock → K (a.put o.dst v') w') : if Region.wanted o (yielded ops a.tmps) = true then Oper.wp Try.prog o a w K Q else K (a.put o.dst undef) w := by
  rw [if_pos (by simp [Region.wanted, hgd])]
  obtain ⟨v', w', hr, h2, h3⟩ := run_append_bytes base o.type w v xs hown A l c hB hsz hbase
  unfold Oper.wp execOp
  simp only [ho, resolve, invoke, builtin, Sem.run_bind, Sem.run_pure, Result.andThen_ok, List.map_toArray, List.map_cons, List.map_nil, hs, hx, hr]
  exact h v' w' h2 h3
/-- What the document's reading goes by, and never changes. -/
structure RkP where
  base : Nat
  w0 : World
  R : Nat
  A : Option Addr
  B : List UInt8
  c : Nat
  dict : Int
abbrev rkRow (k : RkP) (pos : Nat) (v : Value) (s : CkS) (cv : Value) : List Value :=
  [.slice k.A k.B.length k.c, .int .i64 (pos : Nat), .int .i64 k.dict, v, .int .i64 (s.start : Nat), .bool s.clear, .bool s.asked, .int .i64 (s.lc : Nat), .int .i64 (s.lp : Nat), .int .i64 (s.pb : Nat), cv]
/-- The document's coder, between ckTwo parts. -/
structure CodS1 (base : Nat) (w : World) (C : Nat) (s : CkS) : Prop where
  ex : ∃ (Pl : List Nat) (vR : Value) (gR gP capP : Nat), CodAt w C base (s.lc : Nat) (s.lp : Nat) (s.pb : Nat) (s.st : Nat) s.r Pl vR (.slice (some ⟨gP, 0, none⟩) (2180 + 768 * 2 ^ (s.lc + s.lp)) capP) ∧ vR.ownBlock = some gR ∧ Pl.length = 2180 + 768 * 2 ^ (s.lc + s.lp) ∧ ∀ i, i < 2180 + 768 * 2 ^ (s.lc + s.lp) → Pl[i]? = some (s.P i)
  fair : ∀ i, 1 ≤ s.P i ∧ s.P i ≤ 2047
def CodR (base : Nat) (w : World) (cv : Value) (s : CkS) : Prop :=
  s.clear = true → s.asked = false → ∃ C, cv = PF C ∧ base ≤ C ∧ CodS1 base w C s ∧ permB (s.lc : Nat) (s.lp : Nat) (s.pb : Nat) = true ∧ s.st < 12 ∧ rGood s.r
structure RkB (k : RkP) (w : World) (pos : Nat) (s : CkS) (cv : Value) : Prop where
  row : ∃ v, w.heap[k.R]? = some (.cells (rkRow k pos v s cv).toArray 48 (0, 0)) ∧ Own k.base w v s.out
  low : k.base ≤ k.R
  bytes : Bytes w k.A k.B ∧ ∀ a, k.A = some a → a.block < k.base
  nums : k.B.length ≤ k.c ∧ k.c ≤ 9223372036854775807 ∧ k.B.length ≤ 140737488355328 ∧ pos ≤ k.B.length ∧ s.start ≤ s.out.length
  below : Below k.base k.w0 w
  bsz : k.base ≤ k.w0.heap.size
def Rk (k : RkP) (w : World) (pos : Nat) (s : CkS) : Prop := ∃ cv, RkB k w pos s cv ∧ CodR k.base w cv s
theorem OwnV.typed {t : TypeId} {base : Nat} {w : World} {v : Value} {l : List Value} (h : OwnV t base w v l) {g : Nat} (hg : v.ownBlock = some g) : ∃ cs x, w.heap[g]? = some (.cells cs t x) := by
  rcases h with ⟨_, ⟨rfl, _⟩ | ⟨g', cap', cur, rfl, _, h4, _⟩⟩
  · cases hg
  · have e : g' = g := by simpa [Value.ownBlock] using hg
    subst e
    exact ⟨_, _, h4⟩
theorem OwnV.keepB {t : TypeId} {base : Nat} {w w' : World} {v : Value} {l : List Value} (h : OwnV t base w v l) (hb : ∀ g, v.ownBlock = some g → w'.heap[g]? = w.heap[g]?) : OwnV t base w' v l := by
  rcases h with ⟨h1, h2 | ⟨g, cap, cur, h2, h3, h4, h5⟩⟩
  · exact ⟨h1, .inl h2⟩
  · exact ⟨h1, .inr ⟨g, cap, cur, h2, h3, (hb g (by rw [h2]; rfl)).trans h4, h5⟩⟩
section
variable {k : RkP} {w w' : World} {pos : Nat} {s : CkS} {cv : Value}
theorem RkB.keep (h : RkB k w pos s cv) (hb : Below k.base w w') (hX : ∀ (i : Nat) (cs : Array Value) (t : TypeId) (x : Nat × Nat), w.heap[i]? = some (Obj.cells cs t x) → (t = 48 ∨ t = 5) → w'.heap[i]? = w.heap[i]?) : RkB k w' pos s cv := by
  obtain ⟨v, hr, ho⟩ := h.row
  refine ⟨⟨v, (hX _ _ _ _ hr (.inl rfl)).trans hr, ho.keepB fun g hg => ?_⟩, h.low, ⟨?_, h.bytes.2⟩, h.nums, h.below.trans hb, h.bsz⟩
  · obtain ⟨cs, x, hc⟩ := ho.typed hg
    exact hX _ _ _ _ hc (.inr rfl)
  · refine h.bytes.1.keep hb.size fun p hp _ => hb.cell ?_
    cases hA : k.A with
    | none => rw [hA] at hp; cases hp
    | some a =>
      rw [hA] at hp
      have e : a.block = p.block := by simpa using hp
      rw [← e]; exact h.bytes.2 a hA
theorem RkB.of_below (h : RkB k w pos s cv) (hb : Below w.heap.size w w') : RkB k w' pos s cv :=
  h.keep (hb.mono (Nat.le_trans h.bsz h.below.size)) fun i _ _ _ hi _ => hb.block i (Array.getElem?_eq_some_iff.1 hi).1
theorem CodS1.keep {base C : Nat} (h : CodS1 base w C s) (hX : ∀ (i : Nat) (cs : Array Value) (t : TypeId) (x : Nat × Nat), w.heap[i]? = some (Obj.cells cs t x) → (t = 94 ∨ t = 3 ∨ t = 34) → w'.heap[i]? = w.heap[i]?) : CodS1 base w' C s := by
  obtain ⟨Pl, vR, gR, gP, capP, hC, hg, hl, hp⟩ := h.ex
  refine ⟨⟨Pl, vR, gR, gP, capP, ⟨(hX _ _ _ _ hC.box (.inl rfl)).trans hC.box, hC.reps.keepB fun g hg => ?_, hC.ps.keepB fun g hg => ?_⟩, hg, hl, hp⟩, h.fair⟩
  · obtain ⟨cs, x, hc⟩ := hC.reps.typed hg
    exact hX _ _ _ _ hc (.inr (.inl rfl))
  · obtain ⟨cs, x, hc⟩ := hC.ps.typed hg
    exact hX _ _ _ _ hc (.inr (.inr rfl))
theorem CodR.keep {base : Nat} (h : CodR base w cv s) (hX : ∀ (i : Nat) (cs : Array Value) (t : TypeId) (x : Nat × Nat), w.heap[i]? = some (Obj.cells cs t x) → (t = 94 ∨ t = 3 ∨ t = 34) → w'.heap[i]? = w.heap[i]?) : CodR base w' cv s := by
  intro h1 h2
  obtain ⟨C, e, hb, hM, hp⟩ := h h1 h2
  exact ⟨C, e, hb, hM.keep hX, hp⟩
theorem CodR.of_below {base : Nat} (h : CodR base w cv s) (hb : Below w.heap.size w w') : CodR base w' cv s := h.keep fun i _ _ _ hi _ => hb.block i (Array.getElem?_eq_some_iff.1 hi).1
theorem CodR.set {base : Nat} (h : CodR base w cv s) {p : Addr} {cs : Array Value} {x : Nat × Nat} (hp : w.heap[p.block]? = some (.cells cs 48 x)) (u : Value) : CodR base (w.setCell p u) cv s :=
  h.keep fun i _ t' _ hi ht => heap_setCell_other _ _ _ _ (row_ne hi hp (by rcases ht with rfl | rfl | rfl <;> decide))
theorem CodR.same {base : Nat} {s' : CkS} (h : CodR base w cv s) (h1 : s'.clear = s.clear) (h2 : s'.asked = s.asked) (h3 : s'.lc = s.lc ∧ s'.lp = s.lp ∧ s'.pb = s.pb ∧ s'.st = s.st ∧ s'.r = s.r ∧ s'.P = s.P) : CodR base w cv s' := by
  intro h4 h5
  obtain ⟨C, e, hb, hM, hp⟩ := h (h1 ▸ h4) (h2 ▸ h5)
  obtain ⟨Pl, vR, gR, gP, capP, hC, hg, hl, hpp⟩ := hM.ex
  obtain ⟨e1, e2, e3, e4, e5, e6⟩ := h3
  refine ⟨C, e, hb, ⟨⟨Pl, vR, gR, gP, capP, ?_, hg, ?_, ?_⟩, ?_⟩, ?_⟩
  · rw [e1, e2, e3, e4, e5]; exact hC
  · rw [e1, e2]; exact hl
  · rw [e1, e2, e6]; exact hpp
  · rw [e6]; exact hM.fair
  · rw [e1, e2, e3, e4, e5]; exact hp
theorem Rk.of_below (h : Rk k w pos s) (hb : Below w.heap.size w w') : Rk k w' pos s := by
  obtain ⟨cv, h1, h2⟩ := h
  exact ⟨cv, h1.of_below hb, h2.of_below hb⟩
theorem Rk.below (h : Rk k w pos s) : Below k.base k.w0 w := by
  obtain ⟨cv, h1, _⟩ := h
  exact h1.below
theorem RkB.cells (h : RkB k w pos s cv) : ∃ v, (w.cell? ⟨k.R, 0, none⟩ = some (.slice k.A k.B.length k.c) ∧ w.cell? ⟨k.R, 1, none⟩ = some (.int .i64 (pos : Nat)) ∧ w.cell? ⟨k.R, 2, none⟩ = some (.int .i64 k.dict) ∧ w.cell? ⟨k.R, 3, none⟩ = some v ∧ w.cell? ⟨k.R, 4, none⟩ = some (.int .i64 (s.start : Nat)) ∧ w.cell? ⟨k.R, 5, none⟩ = some (.bool s.clear) ∧ w.cell? ⟨k.R, 6, none⟩ = some (.bool s.asked) ∧ w.cell? ⟨k.R, 7, none⟩ = some (.int .i64 (s.lc : Nat)) ∧ w.cell? ⟨k.R, 8, none⟩ = some (.int .i64 (s.lp : Nat)) ∧ w.cell? ⟨k.R, 9, none⟩ = some (.int .i64 (s.pb : Nat)) ∧ w.cell? ⟨k.R, 10, none⟩ = some cv) ∧ Own k.base w v s.out ∧ (∀ i, w.frozen? ⟨k.R, i, none⟩ = false) ∧ k.R < w.heap.size := by
  obtain ⟨v, hr, ho⟩ := h.row
  refine ⟨v, ⟨?_, ?_, ?_, ?_, ?_, ?_, ?_, ?_, ?_, ?_, ?_⟩, ho, fun i => frozen_of_row _ _ _ _ _ hr, (Array.getElem?_eq_some_iff.1 hr).1⟩ <;> (rw [cell_of_row w _ _ _ _ _ hr]; rfl)
theorem RkB.hR (h : RkB k w pos s cv) : ∃ cs, w.heap[k.R]? = some (.cells cs 48 (0, 0)) := by
  obtain ⟨v, hr, _⟩ := h.row
  exact ⟨_, hr⟩
/-- A store into the Reader. -/
theorem RkB.put (h : RkB k w pos s cv) (i : Nat) (u : Value) {pos' : Nat} {s' : CkS} {cv' : Value} (hrow : ∀ v, (rkRow k pos v s cv).set i u = rkRow k pos' v s' cv') (ho' : s'.out = s.out) (hp : pos' ≤ k.B.length) (hst : s'.start ≤ s'.out.length) : RkB k (w.setCell ⟨k.R, i, none⟩ u) pos' s' cv' := by
  obtain ⟨v, hr, ho⟩ := h.row
  have hB : Below k.base k.w0 (w.setCell ⟨k.R, i, none⟩ u) := h.below.setCell (p := ⟨k.R, i, none⟩) h.low _
  refine ⟨⟨v, by rw [← hrow v]; exact heap_set hr i u, ?_⟩, h.low, ⟨?_, h.bytes.2⟩, ⟨h.nums.1, h.nums.2.1, h.nums.2.2.1, hp, hst⟩, hB, h.bsz⟩
  · rw [ho']; exact ho.keepB fun g hg => heap_setCell_other _ _ _ _ (fun e => ho.neT hr (by decide) (by rw [hg, e]))
  · refine h.bytes.1.keep (by simp) fun q hq _ => World.cell?_setCell_far _ _ _ _ ?_
    cases hA : k.A with
    | none => rw [hA] at hq; cases hq
    | some a =>
      rw [hA] at hq
      have e : a.block = q.block := by simpa using hq
      have := h.bytes.2 a hA
      have := h.low
      show k.R ≠ q.block
      omega
theorem Rk.put (h : Rk k w pos s) (i : Nat) (u : Value) {pos' : Nat} {s' : CkS} (hrow : ∀ v cv, (rkRow k pos v s cv).set i u = rkRow k pos' v s' cv) (ho' : s'.out = s.out) (hp : pos' ≤ k.B.length) (hst : s'.start ≤ s'.out.length) (hcod : ∀ cv, CodR k.base w cv s → CodR k.base w cv s') : Rk k (w.setCell ⟨k.R, i, none⟩ u) pos' s' := by
  obtain ⟨cv, h1, h2⟩ := h
  obtain ⟨cs, hr⟩ := h1.hR
  exact ⟨cv, h1.put i u (fun v => hrow v cv) ho' hp hst, (hcod cv h2).set (p := ⟨k.R, i, none⟩) hr u⟩
/-- The bytes that were read, told on. -/
theorem RkB.putOut (h : RkB k w pos s cv) {v' : Value} {out' : List UInt8} (ho' : Own k.base w v' out') (hl : s.out.length ≤ out'.length) : RkB k (w.setCell ⟨k.R, 3, none⟩ v') pos { s with out := out' } cv := by
  obtain ⟨v, hr, ho⟩ := h.row
  have hB : Below k.base k.w0 (w.setCell ⟨k.R, 3, none⟩ v') := h.below.setCell (p := ⟨k.R, 3, none⟩) h.low _
  refine ⟨⟨v', heap_set hr 3 v', ho'.keepB fun g hg => heap_setCell_other _ _ _ _ (fun e => ho'.neT hr (by decide) (by rw [hg, e]))⟩, h.low, ⟨?_, h.bytes.2⟩, ⟨h.nums.1, h.nums.2.1, h.nums.2.2.1, h.nums.2.2.2.1, Nat.le_trans h.nums.2.2.2.2 hl⟩, hB, h.bsz⟩
  refine h.bytes.1.keep (by simp) fun q hq _ => World.cell?_setCell_far _ _ _ _ ?_
  cases hA : k.A with
  | none => rw [hA] at hq; cases hq
  | some a =>
    rw [hA] at hq
    have e : a.block = q.block := by simpa using hq
    have := h.bytes.2 a hA
    have := h.low
    show k.R ≠ q.block
    omega
end
/-- What a step of the document's reading comes to. -/
def RkDone (k : RkP) (x : CkR) (e : Ending) (w' : World) : Prop :=
  match x with
  | .bad n => e = .returned (.int .i64 (n : Nat)) ∧ Below k.base k.w0 w'
  | .go pos s => e = .returned (.int .i64 0) ∧ Rk k w' pos s
theorem RkDone.ret {k : RkP} {x : CkR} {e : Ending} {w' : World} (h : RkDone k x e w') : ∃ n : Int, e = .returned (.int .i64 n) ∧ RkDone k x (.returned (.int .i64 n)) w' := by
  cases x with
  | bad n => obtain ⟨rfl, h⟩ := h; exact ⟨_, rfl, rfl, h⟩
  | go p s => obtain ⟨rfl, h⟩ := h; exact ⟨_, rfl, rfl, h⟩
set_option maxHeartbeats 1000000 in
theorem urhas_any {k : RkP} {w : World} {pos : Nat} {s : CkS} (h : Rk k w pos s) (n : Nat) : Calls Try.prog 12 #[PF k.R, .int .i64 (n : Nat)] w fun e w' => e = .returned (.bool (decide (pos + n ≤ k.B.length))) ∧ Below w.heap.size w w' := by
  obtain ⟨cv, hU, _⟩ := h
  obtain ⟨v, ⟨r0, r1, _, _, _, _, _, _, _, _, _⟩, _, _, _⟩ := hU.cells
  obtain ⟨n1, n2, n3, n4, _⟩ := hU.nums
  obtain ⟨L, hL⟩ : ∃ L, k.B.length = L := ⟨_, rfl⟩
  rw [hL] at r0 n3 n4 ⊢
  have hsub : wrap64 ((L : Int) - (pos : Int)) = (L : Int) - (pos : Int) := by unfold wrap64; omega
  have hres : decide ((n : Int) ≤ (L : Int) - (pos : Int)) = decide (pos + n ≤ L) := by rw [Bool.eq_iff_iff]; simp; omega
  have hLi : (L : Int) ≤ 140737488355328 := by omega
  have hpi : (pos : Int) ≤ (L : Int) := by omega
  clear hU hL
  go_enter Try.func12, Try.ntmps12
  go_wp2_with fail
  go_quiet (fail)
  go_wp2_with fail
  go_ret
  exact ⟨rfl, below_drewN (Below.refl _ _) _⟩
end Go.Proofs.Ytkckjjchfccdjaa

/- The document's Reader: the number of ckTwo bytes. -/
namespace Go.Proofs.Ytkckjjchfccdjaa
set_option maxRecDepth 100000
open Go.RowKit

set_option maxHeartbeats 2000000 in
theorem urtwo_any {k : RkP} {w : World} {pos : Nat} {s : CkS} (h : Rk k w pos s) (hl : pos + 2 ≤ k.B.length) : Calls Try.prog 22 #[PF k.R] w fun e w' => e = .returned (.int .i64 (ckTwo k.B pos : Nat)) ∧ Rk k w' (pos + 2) s := by
  have HK := Lib.hid h
  obtain ⟨cv, hU, _⟩ := h
  obtain ⟨v, ⟨r0, r1, _, _, _, _, _, _, _, _, _⟩, _, hfr, _⟩ := hU.cells
  have f1 := hfr 1
  obtain ⟨n1, n2, n3, n4, n5⟩ := hU.nums
  have HST := Lib.hid n5
  obtain ⟨b, off, hA, hb, hc⟩ := hU.bytes.1.addr (by omega)
  have k0 := hc pos (by omega)
  have k1 := hc (pos + 1) (by omega)
  rw [← getD_of (d := k.B) (i := pos) (by omega)] at k0
  rw [← getD_of (d := k.B) (i := pos + 1) (by omega)] at k1
  have hT : ckTwo k.B pos = 256 * (k.B.getD pos 0).toNat + (k.B.getD (pos + 1) 0).toNat := rfl
  rw [hT]
  have l0 := (k.B.getD pos 0).toNat_lt
  have l1 := (k.B.getD (pos + 1) 0).toNat_lt
  clear hc hT
  generalize k.B.getD pos 0 = x at *
  generalize k.B.getD (pos + 1) 0 = y at *
  rw [hA] at r0
  obtain ⟨q, hq⟩ : ∃ q, pos + 1 = q := ⟨_, rfl⟩
  obtain ⟨q2, hq2⟩ : ∃ q, pos + 2 = q := ⟨_, rfl⟩
  rw [hq] at k1
  rw [hq2]
  have hl2 : q2 ≤ k.B.length := by omega
  have hqi : (pos : Int) + 1 = (q : Int) := by omega
  have hq2i : (pos : Int) + 2 = (q2 : Int) := by omega
  have hz : 256 * (x.toNat : Int) + (y.toNat : Int) = ((256 * x.toNat + y.toNat : Nat) : Int) := by omega
  have hxi : (x.toNat : Int) < 256 := by omega
  have hyi : (y.toNat : Int) < 256 := by omega
  have HL2 := Lib.hid hl2
  obtain ⟨L, hL⟩ : ∃ L, k.B.length = L := ⟨_, rfl⟩
  rw [hL] at r0 n1 n3 n4 hl
  have hpi : (pos : Int) < (L : Int) := by omega
  have hpq : (q : Int) < (L : Int) := by omega
  have hLi : (L : Int) ≤ 140737488355328 := by omega
  have hw1 : IntKind.i64.wrap ((pos : Int) + 1) = (q : Int) := by rw [hqi]; exact IntWalk.i64_in _ (by omega)
  have hwx : IntKind.i64.wrap (x.toNat : Int) = (x.toNat : Int) := IntWalk.i64_in _ (by omega)
  have hwy : IntKind.i64.wrap (y.toNat : Int) = (y.toNat : Int) := IntWalk.i64_in _ (by omega)
  have hw0 : IntKind.i64.wrap (q : Int) = (q : Int) := IntWalk.i64_in _ (by omega)
  have hw4 : IntKind.i64.wrap ((256 * x.toNat + y.toNat : Nat) : Int) = ((256 * x.toNat + y.toNat : Nat) : Int) := IntWalk.i64_in _ (by omega)
  have hw2 : IntKind.i64.wrap (256 * (x.toNat : Int)) = 256 * (x.toNat : Int) := IntWalk.i64_in _ (by omega)
  have hw3 : IntKind.i64.wrap (256 * (x.toNat : Int) + (y.toNat : Int)) = ((256 * x.toNat + y.toNat : Nat) : Int) := by rw [hz]; exact IntWalk.i64_in _ (by omega)
  have HWX := Lib.hid (And.intro hwx (And.intro hwy (And.intro hw2 hw3)))
  clear hwx hwy hw2 hw3 hw4 hw1 hz
  clear hU hL hA hq hq2 hfr hl n1 n2 n3 n4 n5 l0 l1 hl2
  go_enter Try.func22, Try.ntmps22
  go_wp2_with fail
  have hS0 : w.drew.cell? ⟨k.R, 0, none⟩ = some (.slice (some ⟨b, off, none⟩) L k.c) ∧ w.drew.cell? ⟨k.R, 1, none⟩ = some (.int .i64 (pos : Nat)) ∧ w.drew.cell? ⟨b, off + pos, none⟩ = some (.int .u8 (x.toNat : Nat)) ∧ w.drew.cell? ⟨b, off + q, none⟩ = some (.int .u8 (y.toNat : Nat)) := ⟨r0, r1, k0, k1⟩
  refine wp_region_held_drew (S := fun W => W.cell? ⟨k.R, 0, none⟩ = some (.slice (some ⟨b, off, none⟩) L k.c) ∧ W.cell? ⟨k.R, 1, none⟩ = some (.int .i64 (pos : Nat)) ∧ W.cell? ⟨b, off + pos, none⟩ = some (.int .u8 (x.toNat : Nat)) ∧ W.cell? ⟨b, off + q, none⟩ = some (.int .u8 (y.toNat : Nat))) (by kernel_rfl) hS0 (fun hS => ?_)
  refine tk 0 (v := ?vtw1) ?ytw1 hS ?_
  case ytw1 =>
    intro w hSw
    go_simp; all_goals (with_reducible rfl)
  simp only [Act.put, List.setIfInBounds_toArray, List.set_cons_zero, List.set_cons_succ]
  refine tk 1 (v := ?vtw2) ?ytw2 hS ?_
  case ytw2 =>
    intro w hSw
    go_simp; all_goals (with_reducible rfl)
  simp only [Act.put, List.setIfInBounds_toArray, List.set_cons_zero, List.set_cons_succ]
  refine tk 2 (v := ?vtw3) ?ytw3 hS ?_
  case ytw3 =>
    intro w hSw
    go_simp; all_goals (with_reducible rfl)
  simp only [Act.put, List.setIfInBounds_toArray, List.set_cons_zero, List.set_cons_succ]
  refine tk 3 (v := ?vtw4) ?ytw4 hS ?_
  case ytw4 =>
    intro w hSw
    obtain ⟨q0, q1, q2, q3⟩ := hSw
    go_simp; all_goals (with_reducible rfl)
  simp only [Act.put, List.setIfInBounds_toArray, List.set_cons_zero, List.set_cons_succ]
  refine tk 4 (v := ?vtw5) ?ytw5 hS ?_
  case ytw5 =>
    intro w hSw
    go_simp; all_goals (with_reducible rfl)
  simp only [Act.put, List.setIfInBounds_toArray, List.set_cons_zero, List.set_cons_succ]
  refine tk 5 (v := ?vtw6) ?ytw6 hS ?_
  case ytw6 =>
    intro w hSw
    go_simp; all_goals (with_reducible rfl)
  simp only [Act.put, List.setIfInBounds_toArray, List.set_cons_zero, List.set_cons_succ]
  refine tk 6 (v := ?vtw7) ?ytw7 hS ?_
  case ytw7 =>
    intro w hSw
    go_simp; all_goals (with_reducible rfl)
  simp only [Act.put, List.setIfInBounds_toArray, List.set_cons_zero, List.set_cons_succ]
  refine tk 7 (v := ?vtw8) ?ytw8 hS ?_
  case ytw8 =>
    intro w hSw
    obtain ⟨q0, q1, q2, q3⟩ := hSw
    go_simp; all_goals (with_reducible rfl)
  simp only [Act.put, List.setIfInBounds_toArray, List.set_cons_zero, List.set_cons_succ]
  refine tk 8 (v := ?vtw9) ?ytw9 hS ?_
  case ytw9 =>
    intro w hSw
    go_simp; all_goals (with_reducible rfl)
  simp only [Act.put, List.setIfInBounds_toArray, List.set_cons_zero, List.set_cons_succ]
  refine tk 9 (v := ?vtw10) ?ytw10 hS ?_
  case ytw10 =>
    intro w hSw
    obtain ⟨q0, q1, q2, q3⟩ := hSw
    go_simp; all_goals (with_reducible rfl)
  simp only [Act.put, List.setIfInBounds_toArray, List.set_cons_zero, List.set_cons_succ]
  refine tk 10 (v := ?vtw11) ?ytw11 hS ?_
  case ytw11 =>
    intro w hSw
    go_simp; all_goals (with_reducible rfl)
  simp only [Act.put, List.setIfInBounds_toArray, List.set_cons_zero, List.set_cons_succ]
  refine tk 11 (v := ?vtw12) ?ytw12 hS ?_
  case ytw12 =>
    intro w hSw
    go_simp; all_goals (with_reducible rfl)
  simp only [Act.put, List.setIfInBounds_toArray, List.set_cons_zero, List.set_cons_succ]
  refine tk 12 (v := ?vtw13) ?ytw13 hS ?_
  case ytw13 =>
    intro w hSw
    go_simp; all_goals (with_reducible rfl)
  simp only [Act.put, List.setIfInBounds_toArray, List.set_cons_zero, List.set_cons_succ]
  refine tk 13 (v := ?vtw14) ?ytw14 hS ?_
  case ytw14 =>
    intro w hSw
    go_simp; all_goals (with_reducible rfl)
  simp only [Act.put, List.setIfInBounds_toArray, List.set_cons_zero, List.set_cons_succ]
  refine tk 14 (v := ?vtw15) ?ytw15 hS ?_
  case ytw15 =>
    intro w hSw
    go_simp; all_goals (with_reducible rfl)
  simp only [Act.put, List.setIfInBounds_toArray, List.set_cons_zero, List.set_cons_succ]
  refine tk 15 (v := ?vtw16) ?ytw16 hS ?_
  case ytw16 =>
    intro w hSw
    obtain ⟨q0, q1, q2, q3⟩ := hSw
    go_simp; all_goals (with_reducible rfl)
  simp only [Act.put, List.setIfInBounds_toArray, List.set_cons_zero, List.set_cons_succ]
  refine tk 16 (v := ?vtw17) ?ytw17 hS ?_
  case ytw17 =>
    intro w hSw
    go_simp; all_goals (with_reducible rfl)
  simp only [Act.put, List.setIfInBounds_toArray, List.set_cons_zero, List.set_cons_succ]
  refine tk 17 (v := ?vtw18) ?ytw18 hS ?_
  case ytw18 =>
    intro w hSw
    go_simp; all_goals (with_reducible rfl)
  simp only [Act.put, List.setIfInBounds_toArray, List.set_cons_zero, List.set_cons_succ]
  refine tk 18 (v := ?vtw19) ?ytw19 hS ?_
  case ytw19 =>
    intro w hSw
    go_simp; all_goals (with_reducible rfl)
  simp only [Act.put, List.setIfInBounds_toArray, List.set_cons_zero, List.set_cons_succ]
  refine tk 19 (v := ?vtw20) ?ytw20 hS ?_
  case ytw20 =>
    intro w hSw
    obtain ⟨q0, q1, q2, q3⟩ := hSw
    go_simp; all_goals (with_reducible rfl)
  simp only [Act.put, List.setIfInBounds_toArray, List.set_cons_zero, List.set_cons_succ]
  refine tk 20 (v := ?vtw21) ?ytw21 hS ?_
  case ytw21 =>
    intro w hSw
    go_simp; all_goals (with_reducible rfl)
  simp only [Act.put, List.setIfInBounds_toArray, List.set_cons_zero, List.set_cons_succ]
  refine tk 21 (v := ?vtw22) ?ytw22 hS ?_
  case ytw22 =>
    intro w hSw
    go_simp; all_goals (with_reducible rfl)
  simp only [Act.put, List.setIfInBounds_toArray, List.set_cons_zero, List.set_cons_succ]
  refine tk 22 (v := ?vtw23) ?ytw23 hS ?_
  case ytw23 =>
    intro w hSw
    obtain ⟨q0, q1, q2, q3⟩ := hSw
    go_simp; all_goals (with_reducible rfl)
  simp only [Act.put, List.setIfInBounds_toArray, List.set_cons_zero, List.set_cons_succ]
  refine tk 23 (v := ?vtw24) ?ytw24 hS ?_
  case ytw24 =>
    intro w hSw
    go_simp; all_goals (with_reducible rfl)
  simp only [Act.put, List.setIfInBounds_toArray, List.set_cons_zero, List.set_cons_succ]
  refine tk 24 (v := ?vtw25) ?ytw25 hS ?_
  case ytw25 =>
    intro w hSw
    go_simp; all_goals (with_reducible rfl)
  simp only [Act.put, List.setIfInBounds_toArray, List.set_cons_zero, List.set_cons_succ]
  refine tk 25 (v := ?vtw26) ?ytw26 hS ?_
  case ytw26 =>
    intro w hSw
    go_simp; all_goals (with_reducible rfl)
  simp only [Act.put, List.setIfInBounds_toArray, List.set_cons_zero, List.set_cons_succ]
  refine wpAnyH_done (by kernel_rfl) ?_ _
  rw [HWX.out.1, HWX.out.2.1, HWX.out.2.2.1, HWX.out.2.2.2]
  have hU2 := ((HK.out).of_below (drew_below w)).put 1 (.int .i64 (q2 : Nat)) (pos' := q2) (s' := s) (fun _ _ => rfl) rfl HL2.out HST.out (fun _ h => h)
  have HU2 := Lib.hid hU2
  obtain ⟨z, hzz⟩ : ∃ z : Nat, 256 * x.toNat + y.toNat = z := ⟨_, rfl⟩
  rw [hzz]
  have HZZ := Lib.hid hzz
  clear hzz hU2 hS hS0
  go_wp2_with fail
  go_ret
  exact ⟨congrArg (fun n : Nat => Ending.returned (.int .i64 (n : Nat))) HZZ.out.symm, HU2.out⟩
end Go.Proofs.Ytkckjjchfccdjaa
