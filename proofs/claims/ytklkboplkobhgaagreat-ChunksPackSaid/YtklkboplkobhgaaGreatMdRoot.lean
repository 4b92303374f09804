/- Several texts in one: MdCode, MdIo, MdMem. -/
import Derived.Test.YtklkboplkobhgaaGreatSyBase
import Derived.Test.YtklkboplkobhgaaGreatRcAll
/- The model's code: a bit with a chance of a table, by either coder of bits. -/
namespace Go.Proofs.YtklkboplkobhgaaGreat
set_option maxRecDepth 100000
open Go.RowKit

namespace Md
def eff (c : Nat) : Nat := if c = 0 then 1024 else c
theorem eff_fair {c : Nat} (h : c < 2048) : Rc.fair (eff c) = eff c := by unfold Rc.fair eff; split <;> split <;> omega
theorem eff_lt {c : Nat} (h : c < 2048) : eff c < 2048 := by unfold eff; split <;> omega
theorem eff_pos {c : Nat} (h : c ≠ 0) : eff c = c := by unfold eff; rw [if_neg h]
end Md
/-- What code comes to: a coder's step, and then a cell is stored. -/
def CodeDone (at_ : World → List Nat → Prop) (X : List Nat) (a : Addr) (bit : Bool) (p : Nat) (w : World) (e : Ending) (w' : World) : Prop :=
  e = .returned (.int .i64 (bitI bit)) ∧ ∃ w1 X', Only X w w1 ∧ at_ w1 X' ∧ (∀ i ∈ X', i ∈ X ∨ w.heap.size ≤ i) ∧ w' = w1.setCell a (.int .u16 (p : Nat))
def encAt (g : Nat) (s : Rc.St) (w : World) (X : List Nat) : Prop := ∃ o cap, X = [g, o] ∧ EncAt w g o cap s
theorem cell_only {X : List Nat} {w w' : World} {a : Addr} {v : Value} (h : Only X w w') (hX : a.block ∉ X) (hc : w.cell? a = some v) : w'.cell? a = some v := by
  have hb : a.block < w.heap.size := block_lt_of_cell hc
  have e := h.block _ hb hX
  unfold World.cell? at hc ⊢
  rw [e]; exact hc
theorem frozen_only {X : List Nat} {w w' : World} {a : Addr} {b : Bool} (h : Only X w w') (hX : a.block ∉ X) (hl : a.block < w.heap.size) (hc : w.frozen? a = b) : w'.frozen? a = b := by
  have e := h.block _ hl hX
  unfold World.frozen? at hc ⊢
  rw [e]; exact hc

theorem Only.undrewN {X : List Nat} {a b : World} {n : Nat} (h : Only X (a.drewN n) b) : Only X a b := ⟨h.os, h.tape, h.output, h.size, h.block⟩
set_option maxRecDepth 100000 in
set_option maxHeartbeats 1000000 in
theorem code_enc (g o cap : Nat) (s : Rc.St) (b off n cp j c : Nat) (one : Bool) (w : World) (hE : EncAt w g o cap s) (hs : s.ok) (hk : 1 + s.k + 2 ≤ 140737488355328) (hX : b ∉ [g, o]) (hj : j < n) (hn : n ≤ cp) (hcp : cp ≤ 9223372036854775807)
    (hc : w.cell? ⟨b, off + j, none⟩ = some (.int .u16 (c : Nat))) (hf : w.frozen? ⟨b, off + j, none⟩ = false) (hcl : c < 2048) :
    Calls Tryz.prog 75 #[.iface 105 (.pointer (some ⟨g, 0, none⟩)), .slice (some ⟨b, off, none⟩) n cp, .int .i64 (j : Nat), .bool one] w
      (CodeDone (encAt g (Rc.St.scale 2 (s.pick (Md.eff c) one))) [g, o] ⟨b, off + j, none⟩ one (Rc.next (Md.eff c) one) w) := by
  have hm : ∀ w, (method 284 105 (.pointer (some ⟨g, 0, none⟩)) "Bit").run Tryz.prog w = .ok (118, .pointer (some ⟨g, 0, none⟩)) w := fun w => by kernel_rfl
  have hji : (j : Int) < (n : Int) := by omega
  have hni : (n : Int) ≤ 9223372036854775807 := by omega
  have HBIT := Lib.hid (fun (m : Nat) => show Calls Tryz.prog 118 #[.pointer (some ⟨g, 0, none⟩), .int .u16 (Md.eff c : Nat), .int .i64 (bitI one)] (w.drewN m) (BitDone (w.drewN m) g o (bitI one) (Rc.next (Md.eff c) one) (Rc.St.scale 2 (s.pick (Md.eff c) one))) from by
    have hbit := bit_any g o cap s (BitVec.ofNat 16 (Md.eff c)) (bitI one) (w.drewN m) ⟨hE.blk, hE.own, hE.ne⟩ hs hk
    have e0 : (BitVec.ofNat 16 (Md.eff c)).toNat = Md.eff c := by have := Md.eff_lt hcl; simp; omega
    have e1 : (bitI one != 0) = one := by cases one <;> rfl
    rw [e0, Md.eff_fair hcl, e1] at hbit
    exact hbit)
  have HX := Lib.hid hX
  have HC := Lib.hid hc
  have HF := Lib.hid hf
  clear hE hs hk hX hf
  obtain ⟨T, hT⟩ : ∃ T, Rc.St.scale 2 (s.pick (Md.eff c) one) = T := ⟨_, rfl⟩
  rw [hT] at HBIT ⊢
  obtain ⟨N, hN⟩ : ∃ N, Rc.next (Md.eff c) one = N := ⟨_, rfl⟩
  rw [hN] at HBIT ⊢
  clear hT hN
  by_cases h0 : c = 0
  · subst h0
    rw [show Md.eff 0 = 1024 from rfl] at HBIT
    cases one
    all_goals
      simp only [bitI, Bool.false_eq_true, if_false, if_true] at HBIT
      go_enter Tryz.func75, Tryz.ntmps75
      go_wp2_with fail
      go_quiet (fail)
      go_wp2_with fail
      refine (HBIT.out _).mono ?_
      rintro e w1 ⟨rfl, o', cap', hE1, hon, ho'⟩
      have hon' := Only.undrewN hon
      have hc1 := cell_only hon' HX.out HC.out
      have hf1 := frozen_only hon' HX.out (block_lt_of_cell HC.out) HF.out
      go_wp2_with fail
      go_ret
      exact ⟨rfl, w1, [g, o'], hon', ⟨o', cap', rfl, hE1⟩, by intro i hi; simp at hi; rcases hi with rfl | rfl; exact .inl (by simp); rcases ho' with h | h; exact .inl (by simp [h]); exact .inr h, rfl⟩

  · rw [Md.eff_pos h0] at HBIT
    have h0i : ((c : Nat) : Int) ≠ 0 := by omega
    have h0b : (((c : Nat) : Int) == 0) = false := beq_eq_false_iff_ne.2 h0i
    cases one
    all_goals
      simp only [bitI, Bool.false_eq_true, if_false, if_true] at HBIT
      go_enter Tryz.func75, Tryz.ntmps75
      go_wp2_with fail
      go_quiet (fail)
      go_wp2_with fail
      refine (HBIT.out _).mono ?_
      rintro e w1 ⟨rfl, o', cap', hE1, hon, ho'⟩
      have hon' := Only.undrewN hon
      have hc1 := cell_only hon' HX.out HC.out
      have hf1 := frozen_only hon' HX.out (block_lt_of_cell HC.out) HF.out
      go_wp2_with fail
      go_ret
      exact ⟨rfl, w1, [g, o'], hon', ⟨o', cap', rfl, hE1⟩, by intro i hi; simp at hi; rcases hi with rfl | rfl; exact .inl (by simp); rcases ho' with h | h; exact .inl (by simp [h]); exact .inr h, rfl⟩

end Go.Proofs.YtklkboplkobhgaaGreat

/- The model's coder in memory, and the coder of bits that it goes by. -/
namespace Go.Proofs.YtklkboplkobhgaaGreat
set_option maxRecDepth 100000
open Go.RowKit

namespace Md
/-- Where a chance lies, by the document's number: in the coder's struct, or in its table of literals. -/
def blkOf (C L i : Nat) : Nat := if i < 2180 then C else L
def offOf (i : Nat) : Nat := if i < 432 then 8 + i else if i < 1844 then 9 + i else if i < 2180 then i - 119 else i - 2180
def adr (C L i : Nat) : Addr := ⟨blkOf C L i, offOf i, none⟩
def used (n i : Nat) : Prop := i < 1716 ∨ (1844 ≤ i ∧ i < 2180 + 768 * n)
theorem blkOf_or (C L i : Nat) : blkOf C L i = C ∨ blkOf C L i = L := by
  unfold blkOf
  split
  · exact .inl rfl
  · exact .inr rfl
theorem adr_inj {C L n i j : Nat} (hne : C ≠ L) (hi : used n i) (hj : used n j) (h : adr C L i = adr C L j) : i = j := by
  unfold used at hi hj
  have h1 : blkOf C L i = blkOf C L j := congrArg Addr.block h
  have h2 : offOf i = offOf j := congrArg Addr.off h
  have h3 : i < 2180 ↔ j < 2180 := by
    unfold blkOf at h1
    by_cases h4 : i < 2180 <;> by_cases h5 : j < 2180 <;> simp [h4, h5] at h1 ⊢
    · exact hne h1
    · exact hne h1.symm
  unfold offOf at h2
  by_cases a1 : i < 432 <;> by_cases a2 : i < 1844 <;> by_cases a3 : i < 2180 <;> by_cases b1 : j < 432 <;> by_cases b2 : j < 1844 <;> by_cases b3 : j < 2180 <;> simp only [a1, a2, a3, b1, b2, b3, if_true, if_false] at h2 <;> omega
theorem adr_far {C L i k : Nat} (hne : C ≠ L) (hk : k < 8 ∨ k = 440) : adr C L i ≠ ⟨C, k, none⟩ := by
  intro h
  have h1 : blkOf C L i = C := congrArg Addr.block h
  have h2 : offOf i = k := congrArg Addr.off h
  have h3 : i < 2180 := by
    unfold blkOf at h1
    by_cases h4 : i < 2180
    · exact h4
    · rw [if_neg h4] at h1; exact absurd h1.symm hne
  unfold offOf at h2
  by_cases a1 : i < 432 <;> by_cases a2 : i < 1844 <;> simp only [a1, a2, h3, if_true, if_false] at h2 <;> omega
def put (P : Nat → Nat) (i p : Nat) : Nat → Nat := fun j => if j = i then p else P j
end Md
/-- A coder of bits, as the model sees it. -/
structure Io where
  σ : Type
  t : TypeId
  g : Nat
  F : Nat
  at_ : World → σ → List Nat → Prop
  ok : σ → Nat → Prop
  bit : σ → Nat → Bool → Bool × σ
  plain : σ → Nat → Nat → Nat × σ
  keep : ∀ {w w' s X}, at_ w s X → w.heap.size ≤ w'.heap.size → (∀ i ∈ X, w'.heap[i]? = w.heap[i]?) → at_ w' s X
  lt : ∀ {w s X}, at_ w s X → ∀ i ∈ X, i < w.heap.size
  okBit : ∀ {s n p b}, ok s (n + 1) → 1 ≤ p → p ≤ 2047 → ok (bit s p b).2 n
  okPlain : ∀ {s n x m}, ok s (n + 32) → m ≤ 32 → ok (plain s x m).2 n
  le : ∀ {s n m}, ok s n → m ≤ n → ok s m
  plainLt : ∀ {s n x m}, ok s n → x < 2 ^ m → (plain s x m).1 < 2 ^ m
  kind : F = 119 ∨ F = 119
  meth : ∀ w, (method 284 t (.pointer (some ⟨g, 0, none⟩)) "Plain").run Tryz.prog w = .ok (F, .pointer (some ⟨g, 0, none⟩)) w
  code : ∀ (w : World) (s : σ) (X : List Nat) (b off n cp j c : Nat) (one : Bool), at_ w s X → ok s 1 → b ∉ X → j < n → n ≤ cp → cp ≤ 9223372036854775807 → w.cell? ⟨b, off + j, none⟩ = some (.int .u16 (c : Nat)) → w.frozen? ⟨b, off + j, none⟩ = false → c < 2048 →
    Calls Tryz.prog 75 #[.iface t (.pointer (some ⟨g, 0, none⟩)), .slice (some ⟨b, off, none⟩) n cp, .int .i64 (j : Nat), .bool one] w
      (CodeDone (fun w' X' => at_ w' (bit s (Md.eff c) one).2 X') X ⟨b, off + j, none⟩ (bit s (Md.eff c) one).1 (Rc.next (Md.eff c) (bit s (Md.eff c) one).1) w)
  plain_ : ∀ (w : World) (s : σ) (X : List Nat) (x m : Nat), at_ w s X → ok s 32 → x < 4294967296 → m ≤ 32 →
    Calls Tryz.prog F #[.pointer (some ⟨g, 0, none⟩), .int .u32 (x : Nat), .int .i64 (m : Nat)] w
      (fun e w' => e = .returned (.int .u32 ((plain s (x % 2 ^ m) m).1 : Nat)) ∧ ∃ X', Only X w w' ∧ at_ w' (plain s (x % 2 ^ m) m).2 X' ∧ ∀ i ∈ X', i ∈ X ∨ w.heap.size ≤ i)
abbrev Io.v (io : Io) : Value := .iface io.t (.pointer (some ⟨io.g, 0, none⟩))
/-- The chances, and the coder of bits. -/
abbrev Io.S (io : Io) : Type := (Nat → Nat) × io.σ
def Io.bitAt (io : Io) (i : Nat) (b : Bool) (x : io.S) : Bool × io.S := ((io.bit x.2 (x.1 i) b).1, (Md.put x.1 i (Rc.next (x.1 i) (io.bit x.2 (x.1 i) b).1), (io.bit x.2 (x.1 i) b).2))

def encIo (g : Nat) : Io where
  σ := Rc.St
  t := 105
  g := g
  F := 119
  at_ w s X := ∃ o cap, X = [g, o] ∧ EncAt w g o cap s
  ok s n := s.ok ∧ 1 + s.k + 2 * n ≤ 140737488355328
  bit s p b := (b, Rc.St.scale 2 (s.pick p b))
  plain s x m := (x, s.plain x m)
  keep := by
    rintro w w' s X ⟨o, cap, rfl, h⟩ _ hk
    exact ⟨o, cap, rfl, h.keep (hk g (by simp)) (hk o (by simp))⟩
  lt := by
    rintro w s X ⟨o, cap, rfl, h⟩ i hi
    simp at hi
    rcases hi with rfl | rfl
    · exact h.lt.1
    · exact h.lt.2
  okBit := by
    rintro s n p b ⟨h1, h2⟩ h3 h4
    obtain ⟨hf, hr⟩ := s.pick_fits p b h1 h3 h4
    have hk := Rc.St.scale_k 2 (s.pick p b)
    rw [Rc.St.pick_k] at hk
    exact ⟨Rc.St.scale_ok 2 _ hf (by omega), by show 1 + (Rc.St.scale 2 (s.pick p b)).k + 2 * n ≤ _; omega⟩
  okPlain := by
    rintro s n x m ⟨h1, h2⟩ h3
    obtain ⟨hf, hk⟩ := s.plain_ok h1 m x
    exact ⟨hf, by show 1 + (s.plain x m).k + 2 * n ≤ _; omega⟩
  le := by
    rintro s n m ⟨h1, h2⟩ h
    exact ⟨h1, by omega⟩
  plainLt := by
    rintro s n x m _ h
    exact h
  kind := .inl rfl
  meth w := by kernel_rfl
  code := by
    rintro w s X b off n cp j c one ⟨o, cap, rfl, h⟩ ⟨h1, h2⟩ hX hj hn hcp hc hf hcl
    exact code_enc g o cap s b off n cp j c one w h h1 (by omega) hX hj hn hcp hc hf hcl
  plain_ := by
    rintro w s X x m ⟨o, cap, rfl, h⟩ ⟨h1, h2⟩ hx hm
    have hp := plain_any g o cap s (BitVec.ofNat 32 x) (m : Nat) w h h1 (by omega)
    have e0 : (BitVec.ofNat 32 x).toNat = x := by simp; omega
    have e1 : many (m : Nat) = m := by unfold many; omega
    rw [e0, e1] at hp
    refine hp.mono ?_
    rintro e w' ⟨rfl, o', cap', hE, hon, ho⟩
    exact ⟨rfl, [g, o'], hon, ⟨o', cap', rfl, hE⟩, by intro i hi; simp at hi; rcases hi with rfl | rfl; exact .inl (by simp); rcases ho with h | h; exact .inl (by simp [h]); exact .inr h⟩
end Go.Proofs.YtklkboplkobhgaaGreat

/- The model's coder in memory; a bit with one of its chances. -/
namespace Go.Proofs.YtklkboplkobhgaaGreat
set_option maxRecDepth 100000
open Go.RowKit

/-- The coder's first eight cells. -/
abbrev mdHead (lc lp pb st : Nat) (r : R4) : List Value := [.int .i64 (lc : Nat), .int .i64 (lp : Nat), .int .i64 (pb : Nat), .int .i64 (st : Nat), .int .i64 r.1, .int .i64 r.2.1, .int .i64 r.2.2.1, .int .i64 r.2.2.2]
structure ModAt (w : World) (C L lc lp pb st : Nat) (r : R4) (P : Nat → Nat) : Prop where
  box : ∃ T : List Value, w.heap[C]? = some (.cells (mdHead lc lp pb st r ++ T).toArray 83 (0, 0)) ∧ T.length = 2053
  lits : ∃ l : List Value, w.heap[L]? = some (.cells l.toArray 154 (0, 0)) ∧ l.length = 768 * 2 ^ (lc + lp)
  lit : w.cell? ⟨C, 440, none⟩ = some (.slice (some ⟨L, 0, none⟩) (2 ^ (lc + lp)) (2 ^ (lc + lp)))
  ne : C ≠ L
  chance : ∀ i, Md.used (2 ^ (lc + lp)) i → ∃ c : Nat, w.cell? (Md.adr C L i) = some (.int .u16 (c : Nat)) ∧ Md.eff c = P i
  fair : ∀ i, 1 ≤ P i ∧ P i ≤ 2047
theorem Md.eff_small {c p : Nat} (h : eff c = p) (hp : p ≤ 2047) : c < 2048 := by unfold eff at h; split at h <;> omega
section
variable {w w' : World} {C L lc lp pb st : Nat} {r : R4} {P : Nat → Nat}
theorem ModAt.clt (h : ModAt w C L lc lp pb st r P) : C < w.heap.size := by
  obtain ⟨T, hT, _⟩ := h.box
  exact (Array.getElem?_eq_some_iff.1 hT).1
theorem ModAt.llt (h : ModAt w C L lc lp pb st r P) : L < w.heap.size := by
  obtain ⟨T, hT, _⟩ := h.lits
  exact (Array.getElem?_eq_some_iff.1 hT).1
theorem ModAt.keep (h : ModAt w C L lc lp pb st r P) (hC : w'.heap[C]? = w.heap[C]?) (hL : w'.heap[L]? = w.heap[L]?) : ModAt w' C L lc lp pb st r P := by
  obtain ⟨T, hT, hTl⟩ := h.box
  obtain ⟨l, hl, hll⟩ := h.lits
  refine ⟨⟨T, hC.trans hT, hTl⟩, ⟨l, hL.trans hl, hll⟩, ?_, h.ne, fun i hi => ?_, h.fair⟩
  · have := h.lit
    unfold World.cell? at this ⊢
    rw [hC]; exact this
  · obtain ⟨c, hc, he⟩ := h.chance i hi
    refine ⟨c, ?_, he⟩
    unfold World.cell? at hc ⊢
    have hb : w'.heap[(Md.adr C L i).block]? = w.heap[(Md.adr C L i).block]? := by
      rcases Md.blkOf_or C L i with e | e
      · rw [show (Md.adr C L i).block = C from e]; exact hC
      · rw [show (Md.adr C L i).block = L from e]; exact hL
    rw [hb]; exact hc
theorem ModAt.frozenC (h : ModAt w C L lc lp pb st r P) (k : Nat) : w.frozen? ⟨C, k, none⟩ = false := by
  obtain ⟨T, hT, _⟩ := h.box
  exact frozen_of_row _ _ _ _ _ hT
theorem ModAt.frozenL (h : ModAt w C L lc lp pb st r P) (k : Nat) : w.frozen? ⟨L, k, none⟩ = false := by
  obtain ⟨T, hT, _⟩ := h.lits
  exact frozen_of_row _ _ _ _ _ hT
theorem ModAt.frozenA (h : ModAt w C L lc lp pb st r P) (i : Nat) : w.frozen? (Md.adr C L i) = false := by
  unfold Md.adr
  rcases Md.blkOf_or C L i with e | e
  · rw [e]; exact h.frozenC _
  · rw [e]; exact h.frozenL _
theorem ModAt.cells (h : ModAt w C L lc lp pb st r P) : w.cell? ⟨C, 0, none⟩ = some (.int .i64 (lc : Nat)) ∧ w.cell? ⟨C, 1, none⟩ = some (.int .i64 (lp : Nat)) ∧ w.cell? ⟨C, 2, none⟩ = some (.int .i64 (pb : Nat)) ∧ w.cell? ⟨C, 3, none⟩ = some (.int .i64 (st : Nat)) ∧
    w.cell? ⟨C, 4, none⟩ = some (.int .i64 r.1) ∧ w.cell? ⟨C, 5, none⟩ = some (.int .i64 r.2.1) ∧ w.cell? ⟨C, 6, none⟩ = some (.int .i64 r.2.2.1) ∧ w.cell? ⟨C, 7, none⟩ = some (.int .i64 r.2.2.2) := by
  obtain ⟨T, hT, _⟩ := h.box
  refine ⟨?_, ?_, ?_, ?_, ?_, ?_, ?_, ?_⟩ <;> (rw [cell_of_row w _ _ _ _ _ hT]; simp)
theorem ModAt.setChance (h : ModAt w C L lc lp pb st r P) {i p : Nat} (hi : Md.used (2 ^ (lc + lp)) i) (h1 : 1 ≤ p) (h2 : p ≤ 2047) : ModAt (w.setCell (Md.adr C L i) (.int .u16 (p : Nat))) C L lc lp pb st r (Md.put P i p) := by
  obtain ⟨T, hT, hTl⟩ := h.box
  obtain ⟨l, hl, hll⟩ := h.lits
  have hat : (w.setCell (Md.adr C L i) (.int .u16 (p : Nat))).cell? (Md.adr C L i) = some (.int .u16 (p : Nat)) := by
    obtain ⟨c, hc, _⟩ := h.chance i hi
    exact World.cell?_setCell_same _ _ _ hc
  have hfar : ∀ a : Addr, a ≠ Md.adr C L i → (w.setCell (Md.adr C L i) (.int .u16 (p : Nat))).cell? a = w.cell? a := fun a ha => World.cell?_setCell_other _ _ _ _ (fun e => ha e.symm)
  refine ⟨?_, ?_, ?_, h.ne, fun j hj => ?_, fun j => ?_⟩
  · by_cases h3 : i < 2180
    · have hk : 8 ≤ Md.offOf i := by unfold Md.offOf Md.used at *; by_cases a1 : i < 432 <;> by_cases a2 : i < 1844 <;> simp only [a1, a2, h3, if_true, if_false] <;> omega
      refine ⟨T.set (Md.offOf i - 8) (.int .u16 (p : Nat)), ?_, by rw [List.length_set]; exact hTl⟩
      unfold Md.adr Md.blkOf
      rw [if_pos h3, heap_set hT]
      rw [List.set_append_right _ _ (by simpa using hk)]; rfl
    · refine ⟨T, ?_, hTl⟩
      unfold Md.adr Md.blkOf
      rw [if_neg h3]
      exact (heap_setCell_other _ _ _ _ h.ne).trans hT
  · by_cases h3 : i < 2180
    · refine ⟨l, ?_, hll⟩
      unfold Md.adr Md.blkOf
      rw [if_pos h3]
      exact (heap_setCell_other _ _ _ _ (fun e => h.ne e.symm)).trans hl
    · refine ⟨l.set (Md.offOf i) (.int .u16 (p : Nat)), ?_, by rw [List.length_set]; exact hll⟩
      unfold Md.adr Md.blkOf
      rw [if_neg h3]
      exact heap_set hl _ _
  · rw [hfar _ (fun e => Md.adr_far h.ne (.inr rfl) e.symm)]; exact h.lit
  · by_cases hji : j = i
    · subst hji
      refine ⟨p, hat, ?_⟩
      unfold Md.put Md.eff
      rw [if_pos rfl, if_neg (by omega)]
    · obtain ⟨c, hc, he⟩ := h.chance j hj
      refine ⟨c, ?_, ?_⟩
      · rw [hfar _ (fun e => hji (Md.adr_inj h.ne hj hi e))]; exact hc
      · unfold Md.put; rw [if_neg hji]; exact he
  · unfold Md.put
    split
    · exact ⟨h1, h2⟩
    · exact h.fair j
/-- One of the first eight cells is stored. -/
theorem ModAt.setHead (h : ModAt w C L lc lp pb st r P) {k st' : Nat} {r' : R4} {v : Value} (hk : k < 8) (hh : (mdHead lc lp pb st r).set k v = mdHead lc lp pb st' r') : ModAt (w.setCell ⟨C, k, none⟩ v) C L lc lp pb st' r' P := by
  obtain ⟨T, hT, hTl⟩ := h.box
  obtain ⟨l, hl, hll⟩ := h.lits
  have hfar : ∀ a : Addr, a ≠ ⟨C, k, none⟩ → (w.setCell ⟨C, k, none⟩ v).cell? a = w.cell? a := fun a ha => World.cell?_setCell_other _ _ _ _ (fun e => ha e.symm)
  refine ⟨⟨T, ?_, hTl⟩, ⟨l, (heap_setCell_other _ _ _ _ (fun e => h.ne e.symm)).trans hl, hll⟩, ?_, h.ne, fun i hi => ?_, h.fair⟩
  · rw [heap_set hT, List.set_append_left _ _ (by simpa using hk), hh]
  · rw [hfar _ (fun e => by have := congrArg Addr.off e; simp at this; omega)]; exact h.lit
  · obtain ⟨c, hc, he⟩ := h.chance i hi
    exact ⟨c, (hfar _ (Md.adr_far h.ne (.inl hk))).trans hc, he⟩
end
theorem Rc.next_bounds {p : Nat} (h1 : 1 ≤ p) (h2 : p ≤ 2047) (b : Bool) : 1 ≤ Rc.next p b ∧ Rc.next p b ≤ 2047 := by unfold Rc.next; cases b <;> simp <;> omega
/-- The model's coder and the coder of bits, apart in memory. -/
structure MS (io : Io) (w : World) (C L lc lp pb st : Nat) (r : R4) (x : io.S) (X : List Nat) : Prop where
  mod : ModAt w C L lc lp pb st r x.1
  io : io.at_ w x.2 X
  outC : C ∉ X
  outL : L ∉ X
def Went (io : Io) (C L lc lp pb st : Nat) (r : R4) (x : io.S) (X : List Nat) (w w' : World) : Prop :=
  ∃ X', MS io w' C L lc lp pb st r x X' ∧ Only (C :: L :: X) w w' ∧ ∀ i ∈ X', i ∈ X ∨ w.heap.size ≤ i
def MDone (v : Value) (io : Io) (C L lc lp pb st : Nat) (r : R4) (x : io.S) (X : List Nat) (w : World) (e : Ending) (w' : World) : Prop := e = .returned v ∧ Went io C L lc lp pb st r x X w w'
theorem Only.of_below {X : List Nat} {w w' : World} (h : Below w.heap.size w w') : Only X w w' := ⟨h.os, h.tape, h.output, h.size, fun i hi _ => h.block i hi⟩
theorem Went.trans {io : Io} {C L lc lp pb st' : Nat} {r' : R4} {x' : io.S} {X X1 : List Nat} {w w1 w2 : World} (hon : Only (C :: L :: X) w w1) (hX : ∀ i ∈ X1, i ∈ X ∨ w.heap.size ≤ i) (h : Went io C L lc lp pb st' r' x' X1 w1 w2) : Went io C L lc lp pb st' r' x' X w w2 := by
  obtain ⟨X2, hM, hon2, hX2⟩ := h
  refine ⟨X2, hM, hon.trans hon2 ?_, fun i hi => ?_⟩
  · intro i hi
    simp only [List.mem_cons] at hi ⊢
    rcases hi with rfl | rfl | hi
    · exact .inl (.inl rfl)
    · exact .inl (.inr (.inl rfl))
    · rcases hX i hi with h | h
      · exact .inl (.inr (.inr h))
      · exact .inr h
  · rcases hX2 i hi with h | h
    · exact hX i h
    · exact .inr (Nat.le_trans hon.size h)
theorem MS.below {io : Io} {w w' : World} {C L lc lp pb st : Nat} {r : R4} {x : io.S} {X : List Nat} (h : MS io w C L lc lp pb st r x X) (hb : Below w.heap.size w w') : MS io w' C L lc lp pb st r x X :=
  ⟨h.mod.keep (hb.block _ h.mod.clt) (hb.block _ h.mod.llt), io.keep h.io hb.size (fun i hi => hb.block i (io.lt h.io i hi)), h.outC, h.outL⟩
theorem MS.drewN {io : Io} {w : World} {C L lc lp pb st : Nat} {r : R4} {x : io.S} {X : List Nat} (h : MS io w C L lc lp pb st r x X) (n : Nat) : MS io (w.drewN n) C L lc lp pb st r x X := h.below (below_drewN (Below.refl _ _) n)
section
variable {io : Io} {w : World} {C L lc lp pb st : Nat} {r : R4} {x : io.S} {X : List Nat}
theorem MS.setFar (h : MS io w C L lc lp pb st r x X) {b k : Nat} (hb : b ∉ C :: L :: X) (u : Value) : MS io (w.setCell ⟨b, k, none⟩ u) C L lc lp pb st r x X := by
  simp only [List.mem_cons, not_or] at hb
  exact ⟨h.mod.keep (heap_setCell_other _ _ _ _ (fun e => hb.1 e.symm)) (heap_setCell_other _ _ _ _ (fun e => hb.2.1 e.symm)), io.keep h.io (by simp) (fun i hi => heap_setCell_other _ _ _ _ (fun e => hb.2.2 (by simp at e; rw [← e]; exact hi))), h.outC, h.outL⟩
theorem MS.setHead (h : MS io w C L lc lp pb st r x X) {k st' : Nat} {r' : R4} {v : Value} (hk : k < 8) (hh : (mdHead lc lp pb st r).set k v = mdHead lc lp pb st' r') : MS io (w.setCell ⟨C, k, none⟩ v) C L lc lp pb st' r' x X :=
  ⟨h.mod.setHead hk hh, io.keep h.io (by simp) (fun i hi => heap_setCell_other _ _ _ _ (fun e => h.outC (by simp at e; rw [← e]; exact hi))), h.outC, h.outL⟩
theorem MS.out_new (h : MS io w C L lc lp pb st r x X) {b : Nat} (hb : w.heap.size ≤ b) : b ∉ C :: L :: X := by
  intro hm
  simp only [List.mem_cons] at hm
  have h1 := h.mod.clt
  have h2 := h.mod.llt
  rcases hm with rfl | rfl | hm
  · omega
  · omega
  · have := io.lt h.io b hm; omega
end
theorem code_ms (io : Io) {C L lc lp pb st : Nat} {r : R4} {x : io.S} {X : List Nat} {w : World} (hM : MS io w C L lc lp pb st r x X) (hok : io.ok x.2 1) {i b off n cp j : Nat} (hi : Md.used (2 ^ (lc + lp)) i) (ha : Md.adr C L i = ⟨b, off + j, none⟩) (hj : j < n) (hn : n ≤ cp) (hcp : cp ≤ 9223372036854775807) (one : Bool) :
    Calls Tryz.prog 75 #[io.v, .slice (some ⟨b, off, none⟩) n cp, .int .i64 (j : Nat), .bool one] w (MDone (.int .i64 (bitI (io.bitAt i one x).1)) io C L lc lp pb st r (io.bitAt i one x).2 X w) := by
  obtain ⟨c, hc, he⟩ := hM.mod.chance i hi
  have hfair := hM.mod.fair i
  have hf := hM.mod.frozenA i
  rw [ha] at hc hf
  have hb : b = C ∨ b = L := by
    have := Md.blkOf_or C L i
    have e : Md.blkOf C L i = b := congrArg Addr.block ha
    rw [e] at this; exact this
  have hbX : b ∉ X := by
    rcases hb with rfl | rfl
    · exact hM.outC
    · exact hM.outL
  have hcode := io.code w x.2 X b off n cp j c one hM.io hok hbX hj hn hcp hc hf (Md.eff_small he hfair.2)
  rw [he] at hcode
  refine hcode.mono ?_
  rintro e w' ⟨rfl, w1, X', hon, hat, hX', rfl⟩
  have hC : w1.heap[C]? = w.heap[C]? := hon.block C hM.mod.clt hM.outC
  have hL : w1.heap[L]? = w.heap[L]? := hon.block L hM.mod.llt hM.outL
  have hm1 := hM.mod.keep hC hL
  obtain ⟨n1, n2⟩ := Rc.next_bounds hfair.1 hfair.2 (io.bit x.2 (x.1 i) one).1
  have hm2 := hm1.setChance hi n1 n2
  rw [ha] at hm2
  have outC : C ∉ X' := fun h => by
    rcases hX' C h with h | h
    · exact hM.outC h
    · have := hM.mod.clt; omega
  have outL : L ∉ X' := fun h => by
    rcases hX' L h with h | h
    · exact hM.outL h
    · have := hM.mod.llt; omega
  have hbX' : b ∉ X' := by
    rcases hb with rfl | rfl
    · exact outC
    · exact outL
  refine ⟨rfl, X', ⟨hm2, io.keep hat (by simp) (fun i hi => heap_setCell_other _ _ _ _ (fun e => hbX' (by simp at e; rw [← e]; exact hi))), outC, outL⟩, ?_, hX'⟩
  have hon2 : Only (C :: L :: X) w w1 := ⟨hon.os, hon.tape, hon.output, hon.size, fun k hk hX => hon.block k hk (fun h => hX (by simp [h]))⟩
  exact hon2.setCell (p := ⟨b, off + j, none⟩) (.inl (by rcases hb with rfl | rfl <;> simp)) _
end Go.Proofs.YtklkboplkobhgaaGreat
