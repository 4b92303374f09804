/- The model's coder in memory; a bit with one of its chances. -/
import Derived.Test.YtkckjjchfccdjaaMg8
namespace Go.Proofs.Ytkckjjchfccdjaa
set_option maxRecDepth 100000
open Go.RowKit

/-- The coder's first eight cells. -/
abbrev mdHead (lc lp pb st : Nat) (r : R4) : List Value := [.int .i64 (lc : Nat), .int .i64 (lp : Nat), .int .i64 (pb : Nat), .int .i64 (st : Nat), .int .i64 r.1, .int .i64 r.2.1, .int .i64 r.2.2.1, .int .i64 r.2.2.2]
structure ModAt (w : World) (C L lc lp pb st : Nat) (r : R4) (P : Nat → Nat) : Prop where
  box : ∃ T : List Value, w.heap[C]? = some (.cells (mdHead lc lp pb st r ++ T).toArray 121 (0, 0)) ∧ T.length = 2053
  lits : ∃ l : List Value, w.heap[L]? = some (.cells l.toArray 171 (0, 0)) ∧ l.length = 768 * 2 ^ (lc + lp)
  lit : w.cell? ⟨C, 440, none⟩ = some (.slice (some ⟨L, 0, none⟩) (2 ^ (lc + lp)) (2 ^ (lc + lp)))
  ne : C ≠ L
  chance : ∀ i, Md.used (2 ^ (lc + lp)) i → ∃ c : Nat, w.cell? (Md.adr C L i) = some (.int .u16 (c : Nat)) ∧ Md.eff c = P i
  fair : ∀ i, 1 ≤ P i ∧ P i ≤ 2047
theorem Md.eff_small {c p : Nat} (h : eff c = p) (hp : p ≤ 2047) : c < 2048 := by unfold eff at h; split at h <;> omega
section
variable {w w' : World} {C L lc lp pb st : Nat} {r : R4} {P : Nat → Nat}
theorem ModAt.clt (h : ModAt w C L lc lp pb st r P) : C < w.heap.size := by
  obtain ⟨T, hT, _⟩ := h.box
  exact (Array.getElem?_eq_some_iff.1 hT).1
theorem ModAt.llt (h : ModAt w C L lc lp pb st r P) : L < w.heap.size := by
  obtain ⟨T, hT, _⟩ := h.lits
  exact (Array.getElem?_eq_some_iff.1 hT).1
theorem ModAt.keep (h : ModAt w C L lc lp pb st r P) (hC : w'.heap[C]? = w.heap[C]?) (hL : w'.heap[L]? = w.heap[L]?) : ModAt w' C L lc lp pb st r P := by
  obtain ⟨T, hT, hTl⟩ := h.box
  obtain ⟨l, hl, hll⟩ := h.lits
  refine ⟨⟨T, hC.trans hT, hTl⟩, ⟨l, hL.trans hl, hll⟩, ?_, h.ne, fun i hi => ?_, h.fair⟩
  · have := h.lit
    unfold World.cell? at this ⊢
    rw [hC]; exact this
  · obtain ⟨c, hc, he⟩ := h.chance i hi
    refine ⟨c, ?_, he⟩
    unfold World.cell? at hc ⊢
    have hb : w'.heap[(Md.adr C L i).block]? = w.heap[(Md.adr C L i).block]? := by
      rcases Md.blkOf_or C L i with e | e
      · rw [show (Md.adr C L i).block = C from e]; exact hC
      · rw [show (Md.adr C L i).block = L from e]; exact hL
    rw [hb]; exact hc
theorem ModAt.frozenC (h : ModAt w C L lc lp pb st r P) (k : Nat) : w.frozen? ⟨C, k, none⟩ = false := by
  obtain ⟨T, hT, _⟩ := h.box
  exact frozen_of_row _ _ _ _ _ hT
theorem ModAt.frozenL (h : ModAt w C L lc lp pb st r P) (k : Nat) : w.frozen? ⟨L, k, none⟩ = false := by
  obtain ⟨T, hT, _⟩ := h.lits
  exact frozen_of_row _ _ _ _ _ hT
theorem ModAt.frozenA (h : ModAt w C L lc lp pb st r P) (i : Nat) : w.frozen? (Md.adr C L i) = false := by
  unfold Md.adr
  rcases Md.blkOf_or C L i with e | e
  · rw [e]; exact h.frozenC _
  · rw [e]; exact h.frozenL _
theorem ModAt.cells (h : ModAt w C L lc lp pb st r P) : w.cell? ⟨C, 0, none⟩ = some (.int .i64 (lc : Nat)) ∧ w.cell? ⟨C, 1, none⟩ = some (.int .i64 (lp : Nat)) ∧ w.cell? ⟨C, 2, none⟩ = some (.int .i64 (pb : Nat)) ∧ w.cell? ⟨C, 3, none⟩ = some (.int .i64 (st : Nat)) ∧
    w.cell? ⟨C, 4, none⟩ = some (.int .i64 r.1) ∧ w.cell? ⟨C, 5, none⟩ = some (.int .i64 r.2.1) ∧ w.cell? ⟨C, 6, none⟩ = some (.int .i64 r.2.2.1) ∧ w.cell? ⟨C, 7, none⟩ = some (.int .i64 r.2.2.2) := by
  obtain ⟨T, hT, _⟩ := h.box
  refine ⟨?_, ?_, ?_, ?_, ?_, ?_, ?_, ?_⟩ <;> (rw [cell_of_row w _ _ _ _ _ hT]; simp)
theorem ModAt.setChance (h : ModAt w C L lc lp pb st r P) {i p : Nat} (hi : Md.used (2 ^ (lc + lp)) i) (h1 : 1 ≤ p) (h2 : p ≤ 2047) : ModAt (w.setCell (Md.adr C L i) (.int .u16 (p : Nat))) C L lc lp pb st r (Md.put P i p) := by
  obtain ⟨T, hT, hTl⟩ := h.box
  obtain ⟨l, hl, hll⟩ := h.lits
  have hat : (w.setCell (Md.adr C L i) (.int .u16 (p : Nat))).cell? (Md.adr C L i) = some (.int .u16 (p : Nat)) := by
    obtain ⟨c, hc, _⟩ := h.chance i hi
    exact World.cell?_setCell_same _ _ _ hc
  have hfar : ∀ a : Addr, a ≠ Md.adr C L i → (w.setCell (Md.adr C L i) (.int .u16 (p : Nat))).cell? a = w.cell? a := fun a ha => World.cell?_setCell_other _ _ _ _ (fun e => ha e.symm)
  refine ⟨?_, ?_, ?_, h.ne, fun j hj => ?_, fun j => ?_⟩
  · by_cases h3 : i < 2180
    · have hk : 8 ≤ Md.offOf i := by unfold Md.offOf Md.used at *; by_cases a1 : i < 432 <;> by_cases a2 : i < 1844 <;> simp only [a1, a2, h3, if_true, if_false] <;> omega
      refine ⟨T.set (Md.offOf i - 8) (.int .u16 (p : Nat)), ?_, by rw [List.length_set]; exact hTl⟩
      unfold Md.adr Md.blkOf
      rw [if_pos h3, heap_set hT]
      rw [List.set_append_right _ _ (by simpa using hk)]; rfl
    · refine ⟨T, ?_, hTl⟩
      unfold Md.adr Md.blkOf
      rw [if_neg h3]
      exact (heap_setCell_other _ _ _ _ h.ne).trans hT
  · by_cases h3 : i < 2180
    · refine ⟨l, ?_, hll⟩
      unfold Md.adr Md.blkOf
      rw [if_pos h3]
      exact (heap_setCell_other _ _ _ _ (fun e => h.ne e.symm)).trans hl
    · refine ⟨l.set (Md.offOf i) (.int .u16 (p : Nat)), ?_, by rw [List.length_set]; exact hll⟩
      unfold Md.adr Md.blkOf
      rw [if_neg h3]
      exact heap_set hl _ _
  · rw [hfar _ (fun e => Md.adr_far h.ne (.inr rfl) e.symm)]; exact h.lit
  · by_cases hji : j = i
    · subst hji
      refine ⟨p, hat, ?_⟩
      unfold Md.put Md.eff
      rw [if_pos rfl, if_neg (by omega)]
    · obtain ⟨c, hc, he⟩ := h.chance j hj
      refine ⟨c, ?_, ?_⟩
      · rw [hfar _ (fun e => hji (Md.adr_inj h.ne hj hi e))]; exact hc
      · unfold Md.put; rw [if_neg hji]; exact he
  · unfold Md.put
    split
    · exact ⟨h1, h2⟩
    · exact h.fair j
/-- One of the first eight cells is stored. -/
theorem ModAt.setHead (h : ModAt w C L lc lp pb st r P) {k st' : Nat} {r' : R4} {v : Value} (hk : k < 8) (hh : (mdHead lc lp pb st r).set k v = mdHead lc lp pb st' r') : ModAt (w.setCell ⟨C, k, none⟩ v) C L lc lp pb st' r' P := by
  obtain ⟨T, hT, hTl⟩ := h.box
  obtain ⟨l, hl, hll⟩ := h.lits
  have hfar : ∀ a : Addr, a ≠ ⟨C, k, none⟩ → (w.setCell ⟨C, k, none⟩ v).cell? a = w.cell? a := fun a ha => World.cell?_setCell_other _ _ _ _ (fun e => ha e.symm)
  refine ⟨⟨T, ?_, hTl⟩, ⟨l, (heap_setCell_other _ _ _ _ (fun e => h.ne e.symm)).trans hl, hll⟩, ?_, h.ne, fun i hi => ?_, h.fair⟩
  · rw [heap_set hT, List.set_append_left _ _ (by simpa using hk), hh]
  · rw [hfar _ (fun e => by have := congrArg Addr.off e; simp at this; omega)]; exact h.lit
  · obtain ⟨c, hc, he⟩ := h.chance i hi
    exact ⟨c, (hfar _ (Md.adr_far h.ne (.inl hk))).trans hc, he⟩
end
theorem Rc.next_bounds {p : Nat} (h1 : 1 ≤ p) (h2 : p ≤ 2047) (b : Bool) : 1 ≤ Rc.next p b ∧ Rc.next p b ≤ 2047 := by unfold Rc.next; cases b <;> simp <;> omega
/-- The model's coder and the coder of bits, apart in memory. -/
structure MS (io : Io) (w : World) (C L lc lp pb st : Nat) (r : R4) (x : io.S) (X : List Nat) : Prop where
  mod : ModAt w C L lc lp pb st r x.1
  io : io.at_ w x.2 X
  outC : C ∉ X
  outL : L ∉ X
def Went (io : Io) (C L lc lp pb st : Nat) (r : R4) (x : io.S) (X : List Nat) (w w' : World) : Prop :=
  ∃ X', MS io w' C L lc lp pb st r x X' ∧ Only (C :: L :: X) w w' ∧ ∀ i ∈ X', i ∈ X ∨ w.heap.size ≤ i
def MDone (v : Value) (io : Io) (C L lc lp pb st : Nat) (r : R4) (x : io.S) (X : List Nat) (w : World) (e : Ending) (w' : World) : Prop := e = .returned v ∧ Went io C L lc lp pb st r x X w w'
theorem Only.of_below {X : List Nat} {w w' : World} (h : Below w.heap.size w w') : Only X w w' := ⟨h.os, h.tape, h.output, h.size, fun i hi _ => h.block i hi⟩
theorem Went.trans {io : Io} {C L lc lp pb st' : Nat} {r' : R4} {x' : io.S} {X X1 : List Nat} {w w1 w2 : World} (hon : Only (C :: L :: X) w w1) (hX : ∀ i ∈ X1, i ∈ X ∨ w.heap.size ≤ i) (h : Went io C L lc lp pb st' r' x' X1 w1 w2) : Went io C L lc lp pb st' r' x' X w w2 := by
  obtain ⟨X2, hM, hon2, hX2⟩ := h
  refine ⟨X2, hM, hon.trans hon2 ?_, fun i hi => ?_⟩
  · intro i hi
    simp only [List.mem_cons] at hi ⊢
    rcases hi with rfl | rfl | hi
    · exact .inl (.inl rfl)
    · exact .inl (.inr (.inl rfl))
    · rcases hX i hi with h | h
      · exact .inl (.inr (.inr h))
      · exact .inr h
  · rcases hX2 i hi with h | h
    · exact hX i h
    · exact .inr (Nat.le_trans hon.size h)
theorem MS.below {io : Io} {w w' : World} {C L lc lp pb st : Nat} {r : R4} {x : io.S} {X : List Nat} (h : MS io w C L lc lp pb st r x X) (hb : Below w.heap.size w w') : MS io w' C L lc lp pb st r x X :=
  ⟨h.mod.keep (hb.block _ h.mod.clt) (hb.block _ h.mod.llt), io.keep h.io hb.size (fun i hi => hb.block i (io.lt h.io i hi)), h.outC, h.outL⟩
theorem MS.drewN {io : Io} {w : World} {C L lc lp pb st : Nat} {r : R4} {x : io.S} {X : List Nat} (h : MS io w C L lc lp pb st r x X) (n : Nat) : MS io (w.drewN n) C L lc lp pb st r x X := h.below (below_drewN (Below.refl _ _) n)
section
variable {io : Io} {w : World} {C L lc lp pb st : Nat} {r : R4} {x : io.S} {X : List Nat}
theorem MS.setFar (h : MS io w C L lc lp pb st r x X) {b k : Nat} (hb : b ∉ C :: L :: X) (u : Value) : MS io (w.setCell ⟨b, k, none⟩ u) C L lc lp pb st r x X := by
  simp only [List.mem_cons, not_or] at hb
  exact ⟨h.mod.keep (heap_setCell_other _ _ _ _ (fun e => hb.1 e.symm)) (heap_setCell_other _ _ _ _ (fun e => hb.2.1 e.symm)), io.keep h.io (by simp) (fun i hi => heap_setCell_other _ _ _ _ (fun e => hb.2.2 (by simp at e; rw [← e]; exact hi))), h.outC, h.outL⟩
theorem MS.setHead (h : MS io w C L lc lp pb st r x X) {k st' : Nat} {r' : R4} {v : Value} (hk : k < 8) (hh : (mdHead lc lp pb st r).set k v = mdHead lc lp pb st' r') : MS io (w.setCell ⟨C, k, none⟩ v) C L lc lp pb st' r' x X :=
  ⟨h.mod.setHead hk hh, io.keep h.io (by simp) (fun i hi => heap_setCell_other _ _ _ _ (fun e => h.outC (by simp at e; rw [← e]; exact hi))), h.outC, h.outL⟩
theorem MS.out_new (h : MS io w C L lc lp pb st r x X) {b : Nat} (hb : w.heap.size ≤ b) : b ∉ C :: L :: X := by
  intro hm
  simp only [List.mem_cons] at hm
  have h1 := h.mod.clt
  have h2 := h.mod.llt
  rcases hm with rfl | rfl | hm
  · omega
  · omega
  · have := io.lt h.io b hm; omega
end
theorem code_ms (io : Io) {C L lc lp pb st : Nat} {r : R4} {x : io.S} {X : List Nat} {w : World} (hM : MS io w C L lc lp pb st r x X) (hok : io.ok x.2 1) {i b off n cp j : Nat} (hi : Md.used (2 ^ (lc + lp)) i) (ha : Md.adr C L i = ⟨b, off + j, none⟩) (hj : j < n) (hn : n ≤ cp) (hcp : cp ≤ 9223372036854775807) (one : Bool) :
    Calls Try.prog 88 #[io.v, .slice (some ⟨b, off, none⟩) n cp, .int .i64 (j : Nat), .bool one] w (MDone (.int .i64 (bitI (io.bitAt i one x).1)) io C L lc lp pb st r (io.bitAt i one x).2 X w) := by
  obtain ⟨c, hc, he⟩ := hM.mod.chance i hi
  have hfair := hM.mod.fair i
  have hf := hM.mod.frozenA i
  rw [ha] at hc hf
  have hb : b = C ∨ b = L := by
    have := Md.blkOf_or C L i
    have e : Md.blkOf C L i = b := congrArg Addr.block ha
    rw [e] at this; exact this
  have hbX : b ∉ X := by
    rcases hb with rfl | rfl
    · exact hM.outC
    · exact hM.outL
  have hcode := io.code w x.2 X b off n cp j c one hM.io hok hbX hj hn hcp hc hf (Md.eff_small he hfair.2)
  rw [he] at hcode
  refine hcode.mono ?_
  rintro e w' ⟨rfl, w1, X', hon, hat, hX', rfl⟩
  have hC : w1.heap[C]? = w.heap[C]? := hon.block C hM.mod.clt hM.outC
  have hL : w1.heap[L]? = w.heap[L]? := hon.block L hM.mod.llt hM.outL
  have hm1 := hM.mod.keep hC hL
  obtain ⟨n1, n2⟩ := Rc.next_bounds hfair.1 hfair.2 (io.bit x.2 (x.1 i) one).1
  have hm2 := hm1.setChance hi n1 n2
  rw [ha] at hm2
  have outC : C ∉ X' := fun h => by
    rcases hX' C h with h | h
    · exact hM.outC h
    · have := hM.mod.clt; omega
  have outL : L ∉ X' := fun h => by
    rcases hX' L h with h | h
    · exact hM.outL h
    · have := hM.mod.llt; omega
  have hbX' : b ∉ X' := by
    rcases hb with rfl | rfl
    · exact outC
    · exact outL
  refine ⟨rfl, X', ⟨hm2, io.keep hat (by simp) (fun i hi => heap_setCell_other _ _ _ _ (fun e => hbX' (by simp at e; rw [← e]; exact hi))), outC, outL⟩, ?_, hX'⟩
  have hon2 : Only (C :: L :: X) w w1 := ⟨hon.os, hon.tape, hon.output, hon.size, fun k hk hX => hon.block k hk (fun h => hX (by simp [h]))⟩
  exact hon2.setCell (p := ⟨b, off + j, none⟩) (.inl (by rcases hb with rfl | rfl <;> simp)) _
end Go.Proofs.Ytkckjjchfccdjaa
