/- Words for the law RcdecBack: a row of uint32 of the call's own, and what is kept. -/
import Derived.Test.YtaacfdlnoeiojaaRdBack
import Derived.Test.YtaacfdlnoeiojaaRdReads
import Derived.Test.YtaacfdlnoeiojaaRcBytes
import Derived.Test.YtaacfdlnoeiojaaRcKept
namespace Go.Proofs.Ytaacfdlnoeiojaa
open Go.RowKit

theorem Rc.plain_mod (s : Rc.St) : ∀ (m x : Nat), s.plain (x % 2 ^ m) m = s.plain x m
  | 0, _ => rfl
  | m + 1, x => by
    have h1 : x % 2 ^ (m + 1) / 2 = x / 2 % 2 ^ m := by rw [Nat.pow_succ, Nat.mul_comm, Nat.mod_mul_right_div_self]
    have h2 : x % 2 ^ (m + 1) % 2 = x % 2 := by rw [Nat.pow_succ, Nat.mod_mul_left_mod]
    rw [Rc.St.plain, Rc.St.plain, h1, h2, Rc.plain_mod s m (x / 2)]

abbrev U32 (n : Nat) : Value := .int .u32 (n : Nat)
theorem info32 : (Try.prog.info? 33).map (fun i => (i.zero, i.size, i.bytes)) = some (some (.int .u32 0), 1, 4) := by kernel_rfl
/-- A row of uint32 of the call's own. -/
def Want (base : Nat) (w : World) (v : Value) (ns : List Nat) : Prop := w.ownsRow base 33 1 v ns.length (ns.map U32)
theorem Want.nil (base : Nat) (w : World) : Want base w (.slice none 0 0) [] := World.ownsRow_nil w base _ 1
theorem Want.keep {base : Nat} {w w' : World} {v : Value} {ns : List Nat} (h : Want base w v ns) (hb : ∀ g, v.ownBlock = some g → w'.heap[g]? = w.heap[g]?) : Want base w' v ns := by
  rcases h with ⟨h1, h2 | ⟨g, cap, cur, h2, h3, h4, h5⟩⟩
  · exact ⟨h1, .inl h2⟩
  · exact ⟨h1, .inr ⟨g, cap, cur, h2, h3, (hb g (by rw [h2]; rfl)).trans h4, h5⟩⟩
theorem Want.below {base : Nat} {w w' : World} {v : Value} {ns : List Nat} (h : Want base w v ns) (hb : Below w.heap.size w w') : Want base w' v ns :=
  h.keep fun g hg => hb.block g (h.lt g hg).2
/-- Its block is no coder's. -/
theorem Want.apart {base : Nat} {w : World} {v : Value} {ns : List Nat} (h : Want base w v ns) {g o cap : Nat} {s : Rc.St} (hE : EncAt w g o cap s) : v.ownBlock ≠ some g ∧ v.ownBlock ≠ some o := by
  have key : ∀ k (cs : Array Value) (t : TypeId) (fr : Nat × Nat), w.heap[k]? = some (.cells cs t fr) → t ≠ 33 → v.ownBlock ≠ some k := by
    intro k cs t fr hk ht he
    rcases h with ⟨_, ⟨rfl, _⟩ | ⟨g', cap', cur, rfl, _, h4, _⟩⟩
    · cases he
    · have e : g' = k := by simpa [Value.ownBlock] using he
      subst e
      rw [h4] at hk
      injection hk with hk; injection hk with _ hk2 _
      exact ht hk2.symm
  refine ⟨key g _ _ _ hE.blk (by decide), ?_⟩
  rcases hE.own with ⟨_, ⟨h0, _⟩ | ⟨g', cap', cur, h1, _, h4, _⟩⟩
  · cases h0
  · have e : g' = o := by injection h1 with h1; injection h1 with h1; injection h1 with h1; exact h1.symm
    subst e
    exact key _ _ _ _ h4 (by decide)

theorem run_append_one (base : Nat) (ty : TypeId) (w : World) (v : Value) (ns : List Nat) (hown : Want base w v ns) (h n c : Nat) (hc : w.cell? ⟨h, 0, none⟩ = some (U32 n))
    (hsz : (ns.length + 1) * 4 ≤ 140737488355328) (hbase : base ≤ w.heap.size) :
    ∃ v' w', (Builtin.append_ #[48, 48] ty #[v, .slice (some ⟨h, 0, none⟩) 1 c]).run Try.prog w = .ok v' w' ∧ Want base w' v' (ns ++ [n]) ∧ w.grownBy w' v.ownBlock := by
  obtain ⟨i, hi, hz0, hz1, hz2⟩ := info_parts info32
  obtain ⟨v', w', hr, h2, h3, _⟩ := run_append_own (P := Try.prog) w base 48 ty 33 i (.int .u32 0) 1 4 Try.underlying48 hi hz0 hz1 hz2 rfl (by decide)
    v ns.length (ns.map U32) hown ⟨h, 0, none⟩ 1 c [U32 n] rfl (by
      intro j u hu
      match j with
      | 0 => simp at hu; subst hu; simpa [Addr.add] using hc
      | j + 1 => simp at hu) (by intro u hu; simp at hu; subst hu; rfl) (by unfold maxLen; omega) hsz hbase
  exact ⟨v', w', hr, by simpa [Want] using h2, h3⟩

theorem wpList_append_one {ops : Array Oper} {rest : List Oper} {o : Oper} {a : Act} {Q : Exit → Act → World → Prop} (hgd : o.guard = none) (s x : Operand)
    (ho : o.op = .call { callee := .builtin .append, args := #[s, x], argTypes := #[48, 48] })
    (base : Nat) (w : World) (v : Value) (ns : List Nat) (hs : a.eval s = v) (hown : Want base w v ns) (hh n c : Nat) (hx : a.eval x = .slice (some ⟨hh, 0, none⟩) 1 c) (hc : w.cell? ⟨hh, 0, none⟩ = some (U32 n))
    (hsz : (ns.length + 1) * 4 ≤ 140737488355328) (hbase : base ≤ w.heap.size)
    (h : ∀ v' w', Want base w' v' (ns ++ [n]) → w.grownBy w' v.ownBlock → wpList Try.prog ops Q rest (a.put o.dst v') w') : wpList Try.prog ops Q (o :: rest) a w := by
  refine wpList_plain hgd fun K hK => ?_
  obtain ⟨v', w', hr, h2, h3⟩ := run_append_one base o.type w v ns hown hh n c hc hsz hbase
  unfold Oper.wp execOp
  simp only [ho, resolve, invoke, builtin, Sem.run_bind, Sem.run_pure, Result.andThen_ok, List.map_toArray, List.map_cons, List.map_nil, hs, hx, hr]
  exact hK _ _ (h v' w' h2 h3)

/-- The same at a step of a region that draws its order. -/
theorem step_append_one {ops : Array Oper} {o : Oper} {a : Act} {K : Act → World → Prop} {Q : Exit → Act → World → Prop} (hgd : o.guard = none) (s x : Operand)
    (ho : o.op = .call { callee := .builtin .append, args := #[s, x], argTypes := #[48, 48] })
    (base : Nat) (w : World) (v : Value) (ns : List Nat) (hs : a.eval s = v) (hown : Want base w v ns) (hh n c : Nat) (hx : a.eval x = .slice (some ⟨hh, 0, none⟩) 1 c) (hc : w.cell? ⟨hh, 0, none⟩ = some (U32 n))
    (hsz : (ns.length + 1) * 4 ≤ 140737488355328) (hbase : base ≤ w.heap.size)
    (h : ∀ v' w', Want base w' v' (ns ++ [n]) → w.grownBy w' v.ownBlock → K (a.put o.dst v') w') : if Region.wanted o (yielded ops a.tmps) = true then Oper.wp Try.prog o a w K Q else K (a.put o.dst undef) w := by
  rw [if_pos (by simp [Region.wanted, hgd])]
  obtain ⟨v', w', hr, h2, h3⟩ := run_append_one base o.type w v ns hown hh n c hc hsz hbase
  unfold Oper.wp execOp
  simp only [ho, resolve, invoke, builtin, Sem.run_bind, Sem.run_pure, Result.andThen_ok, List.map_toArray, List.map_cons, List.map_nil, hs, hx, hr]
  exact h v' w' h2 h3

/-- What was said of the first deeds. -/
def saids (D : Nat → Deed) (t : Nat) : List Nat := (List.range t).map fun i => saidOf (D i)
theorem saids_length (D : Nat → Deed) (t : Nat) : (saids D t).length = t := by simp [saids]
theorem saids_succ (D : Nat → Deed) (t : Nat) : saids D (t + 1) = saids D t ++ [saidOf (D t)] := by simp [saids, List.range_succ]

/-- Where the coder is behind some deeds. -/
def Coded (w : World) (g : Nat) (D : Nat → Deed) (t : Nat) (vw : Value) (wr : World) : Prop :=
  ∃ o cap, EncAt wr g o cap (runE D t) ∧ Want w.heap.size wr vw (saids D t) ∧ w.heap.size ≤ g ∧ w.heap.size ≤ o ∧ Below w.heap.size w wr

/-- The coder has coded a deed; the row is as it was. -/
theorem coded_shift {w wr w3 : World} {g o cap : Nat} {s s' : Rc.St} {vw : Value} {ns : List Nat} (hE : EncAt wr g o cap s) (hW : Want w.heap.size wr vw ns) (hg : w.heap.size ≤ g) (ho : w.heap.size ≤ o) (hb : Below w.heap.size w wr)
    (hS : Shifted wr g o s' w3) : ∃ o' cap', EncAt w3 g o' cap' s' ∧ Want w.heap.size w3 vw ns ∧ w.heap.size ≤ o' ∧ Below w.heap.size w w3 := by
  obtain ⟨o', cap', hE3, hon, ho'⟩ := hS
  obtain ⟨a1, a2⟩ := hW.apart hE
  have hsz := hb.size
  refine ⟨o', cap', hE3, hW.keep fun k hk => hon.block k (hW.lt k hk).2 (by
    simp; exact ⟨fun e => a1 (by rw [hk, e]), fun e => a2 (by rw [hk, e])⟩), by omega, hb.trans (hon.below hsz (by intro i hi; simp at hi; omega))⟩
/-- A number was put behind the row. -/
theorem coded_grown {w w3 w5 : World} {g o cap : Nat} {s : Rc.St} {vw : Value} {ns : List Nat} (hE : EncAt w3 g o cap s) (hW : Want w.heap.size w3 vw ns) (hb : Below w.heap.size w w3) (ob : Obj)
    (hgr : (w3.alloc ob).grownBy w5 vw.ownBlock) : EncAt w5 g o cap s ∧ Below w.heap.size w w5 := by
  obtain ⟨a1, a2⟩ := hW.apart hE
  have hl := hE.lt
  have hE4 := hE.below ((Below.refl w3.heap.size w3).alloc (Nat.le_refl _) ob)
  have hsz := hb.size
  refine ⟨hE4.keep (hgr.block g (by simp; omega) (fun e => a1 e.symm)) (hgr.block o (by simp; omega) (fun e => a2 e.symm)), ?_⟩
  exact below_grown (hb.alloc hsz ob) hgr (by simp; omega) (fun k hk => (hW.lt k hk).1)

theorem be_agree (S : Rc.St) : Agree S (Rc.be (5 + S.k) S.v) := by
  intro i h h5
  rw [Rc.be_get (5 + S.k) S.v i h5, UInt8.toNat_ofNat', show 5 + S.k - 1 - i = 4 + S.k - i by omega]; omega
theorem agree_append {S : Rc.St} {L : List UInt8} (h : Agree S L) (hl : 5 + S.k ≤ L.length) (x : UInt8) : Agree S (L ++ [x]) := by
  intro i hi h5
  rw [List.getElem_append_left (by omega)]; exact h i (by omega) h5
theorem agree_take {S : Rc.St} {L : List UInt8} (h : Agree S L) (n : Nat) : Agree S (L.take n) := by
  intro i hi h5
  rw [List.getElem_take]; exact h i (by simp at hi; omega) h5
/-- The first byte is 0. -/
theorem agree_zero {S : Rc.St} {L : List UInt8} (h : Agree S L) (hok : S.ok) (hl : 0 < L.length) : L.getD 0 0 = 0 := by
  have hg : L.getD 0 0 = L[0] := by simp [List.getD, hl]
  have hv : S.v < 256 ^ (4 + S.k) := S.ok_small hok
  rw [hg]
  apply UInt8.toNat_inj.1
  rw [h 0 hl (by omega), Nat.sub_zero, Nat.div_eq_of_lt hv]; rfl
/-- The bytes that are read the k-th time. -/
def LL (Bl : List UInt8) (more : UInt8) (k : Nat) : List UInt8 := if k = 1 then Bl ++ [more] else if k = 2 then Bl.take (Bl.length - 1) else Bl
theorem LL_agree {S : Rc.St} {Bl : List UInt8} (hA : Agree S Bl) (hl : Bl.length = 5 + S.k) (more : UInt8) (k : Nat) : Agree S (LL Bl more k) := by
  unfold LL; split
  · exact agree_append hA (by omega) _
  · split
    · exact agree_take hA _
    · exact hA
def AllAt (wp : World) (L : List UInt8) (v : Value) (wx : World) : Prop := ∃ A c, v = .slice A L.length c ∧ L.length ≤ c ∧ c ≤ 9223372036854775807 ∧ Bytes wx A L ∧ Below wp.heap.size wp wx
def GotAt (wp : World) (g o cap : Nat) (L : List UInt8) (n : Nat) (q : Rd.St) (v : Value) (wx : World) : Prop := v = U32 n ∧ DecIs wx g o cap L q ∧ Below wp.heap.size wp wx
theorem Want.cell {base : Nat} {w : World} {gw n capw : Nat} {ns : List Nat} (h : Want base w (.slice (some ⟨gw, 0, none⟩) n capw) ns) (hn : n = ns.length) {i : Nat} (hi : i < ns.length) : w.cell? ⟨gw, i, none⟩ = some (U32 ns[i]) := by
  subst hn
  have := World.ownsRow.cellAt h i (by omega)
  rw [this]; simp [hi]
/-- What is so behind all deeds. -/
theorem LL_end {D : Nat → Deed} {n : Nat} {Bl : List UInt8} (hA : Agree (runE D n) Bl) (hl : Bl.length = 5 + (runE D n).k) (more : UInt8) (k : Nat) (h5 : 5 ≤ (LL Bl more k).length) :
    (k = 0 → (runD (LL Bl more k) D n).done (LL Bl more k) = true) ∧ (k = 1 → (runD (LL Bl more k) D n).done (LL Bl more k) = false ∧ (runD (LL Bl more k) D n).out = false) ∧ (k = 2 → (runD (LL Bl more k) D n).done (LL Bl more k) = false) := by
  have hF := follow_run (LL_agree hA hl more k) h5 n (Nat.le_refl _)
  have ht : Rc.top (runE D n) (runE D n).k = (runE D n).v := by unfold Rc.top; simp
  refine ⟨fun h => ?_, fun h => ?_, fun h => ?_⟩
  · subst h
    have e : LL Bl more 0 = Bl := rfl
    rw [e] at hF ⊢
    rw [hF.1 (by omega), ht]
    show (true && (5 + (runE D n).k == Bl.length && _ - _ == 0)) = true
    rw [hl]; simp
  · subst h
    have e : LL Bl more 1 = Bl ++ [more] := rfl
    rw [e] at hF ⊢
    have hl2 : (Bl ++ [more]).length = 6 + (runE D n).k := by simp [hl]; omega
    rw [hF.1 (by omega)]
    refine ⟨?_, rfl⟩
    show (true && (5 + (runE D n).k == (Bl ++ [more]).length && _)) = false
    rw [hl2]
    have : (5 + (runE D n).k == 6 + (runE D n).k) = false := beq_eq_false_iff_ne.2 (by omega)
    rw [this]; rfl
  · subst h
    have e : LL Bl more 2 = Bl.take (Bl.length - 1) := rfl
    rw [e] at hF ⊢
    have hl2 : (Bl.take (Bl.length - 1)).length = 4 + (runE D n).k := by simp [hl]
    have ho := hF.2 (by omega)
    unfold Rd.St.done; rw [ho]; rfl
end Go.Proofs.Ytaacfdlnoeiojaa
