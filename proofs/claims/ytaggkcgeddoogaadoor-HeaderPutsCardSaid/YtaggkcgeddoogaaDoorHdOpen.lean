/- A head that came in. -/
import Derived.Test.YtaggkcgeddoogaaDoorLift
import Derived.Test.YtaggkcgeddoogaaDoorHdLaw2
import Derived.Deep.Slices
import Derived.Deep.Fields
import Derived.ChangeSame
import Derived.Lib.SmallJoins
namespace Go.Proofs.YtaggkcgeddoogaaDoor
open Go.ChangeShapes Go.WideShapes Go.ChangeAt Go.RowKit Go.Joins

set_option maxRecDepth 100000 in
theorem cellsFil : Tryd.prog.cellsOf 48 = 2 := by kernel_rfl
set_option maxRecDepth 100000 in
theorem one_field {H : Type} {enc : TypeId × Value → H} {W : World} {n : Nat} {t : TypeId} {k : IntKind} {cs : List Value} {j : Nat} {y : Option (DataW H × List MemPlace)} (hk : Tryd.prog.underlying t = some (.int k)) (hl : j < cs.length)
    (hy : y.isSome = true) (h : DataW.trod enc Tryd.prog W 0 (fun _ => true) true n t ((cs.drop j).take 1) = y) : ∃ z, cs[j]? = some (.int k z) ∧ (Lit.int k z).wf = true := by
  obtain ⟨x, rfl⟩ := Option.isSome_iff_exists.1 hy
  obtain ⟨z, hz, _, hw⟩ := DataW.trod_int hk h
  refine ⟨z, ?_, hw⟩
  have e : (cs.drop j).take 1 = [cs[j]] := by rw [List.drop_eq_getElem_cons hl]; rfl
  rw [e] at hz
  injection hz with hz
  rw [List.getElem?_eq_getElem hl, hz]
set_option maxRecDepth 100000 in
theorem add_none (b o k : Nat) : (⟨b, o, none⟩ : Addr).add k = ⟨b, o + k, none⟩ := by
  unfold Addr.add; split <;> simp_all

set_option maxRecDepth 100000 in
theorem open_fils {H : Type} {enc : TypeId × Value → H} {W : World} {v : Value} {y : DataW H × List MemPlace} {n0 : Nat}
    (hf : DataW.trod enc Tryd.prog W 0 (fun _ => true) true n0 22 [v] = some y) :
    ∃ (A : Option Addr) (l : List Fil) (c : Nat), v = .slice A l.length c ∧ l.length ≤ c ∧ c ≤ 9223372036854775807 ∧ Fils W A l := by
  rcases Go.Deep.open_slice Tryd.underlying22 hf with ⟨hcs, _⟩ | ⟨a, len, cap, m, n, D, Pl, hcs, _, hl, hm, hmm, _, hi⟩
  · injection hcs with hcs
    subst hcs
    exact ⟨none, [], 0, rfl, by simp, by omega, .inl rfl⟩
  · injection hcs with hcs
    subst hcs
    simp only [if_true] at hmm
    unfold maxLen at hm
    obtain ⟨b, off, spot⟩ := a
    have hsp : 0 < len → spot = none := by
      intro hpos
      obtain ⟨cs', hc, _⟩ := hi 0 (by omega)
      rw [cellsFil] at hc
      obtain ⟨_, hcl, hat⟩ := World.cells?_some hc
      have := World.cell?_spot ((hat 0 (by omega)).trans (List.getElem?_eq_getElem (by omega)))
      simpa [Addr.add] using this
    have key : ∀ i, i < len → spot = none ∧ b < W.heap.size ∧ ∃ f, FilAt W b (off + i * 2) f := by
      intro i hil
      obtain ⟨cs', hc, ht⟩ := hi i (by omega)
      rw [cellsFil] at hc
      obtain ⟨_, hcl, hat⟩ := World.cells?_some hc
      obtain ⟨ys, n', _, _, _, hyl, hf⟩ := DataW.trod_struct Tryd.underlying48 ht
      have hsome : ∀ j, j < 2 → ys[j]?.isSome = true := fun j hj => by
        rw [List.getElem?_eq_getElem (by rw [hyl]; exact hj)]; rfl
      obtain ⟨z0, e0, w0⟩ := one_field (j := 0) Tryd.underlying3 (by omega) (hsome 0 (by omega)) (hf 0 _ rfl)
      obtain ⟨z1, e1, w1⟩ := one_field (j := 1) Tryd.underlying23 (by omega) (hsome 1 (by omega)) (hf 1 _ rfl)
      have hspot : spot = none := hsp (by omega)
      subst hspot
      have hadd : ∀ j, ((⟨b, off, none⟩ : Addr).add (i * 2)).add j = ⟨b, off + i * 2 + j, none⟩ := by
        intro j; rw [add_none, add_none]
      have h0 := (hat 0 (by omega)).trans e0
      have h1 := (hat 1 (by omega)).trans e1
      rw [hadd] at h0 h1
      have hz := wf_bounds64 w0
      refine ⟨rfl, ?_, ⟨z0, (BitVec.ofNat 32 z1.toNat).toNat⟩, h0, ?_, hz.1, hz.2, (BitVec.ofNat 32 z1.toNat).isLt⟩
      · exact block_lt_of_cell h0
      · rw [← wf_bv32 w1]; exact h1
    refine ⟨some ⟨b, off, spot⟩, (List.range len).map (fun i => if h : i < len then Classical.choose (key i h).2.2 else ⟨0, 0⟩), cap, by simp, by simpa using hl, hm, ?_⟩
    rcases Nat.eq_zero_or_pos len with h0 | hpos
    · subst h0; exact .inl rfl
    · obtain ⟨rfl, hb, _⟩ := key 0 hpos
      refine .inr ⟨b, off, rfl, hb, fun i hil => ?_⟩
      have hil' : i < len := by simpa using hil
      have := Classical.choose_spec (key i hil').2.2
      rw [List.getElem_map, List.getElem_range, dif_pos hil']; exact this
set_option maxRecDepth 100000 in
theorem cellsHead : Tryd.prog.cellsOf 25 = 4 := by kernel_rfl
set_option maxRecDepth 100000 in
theorem open_head {H : Type} {enc : TypeId × Value → H} {W : World} {b0 : Nat} {v : Value} {d : DataW H} {p : List MemPlace}
    (hval : Value.okWide Tryd.prog W .any b0 25 v) (h : DataW.Trod enc Tryd.prog W 0 (fun _ => true) true 25 v d p) :
    ∃ (h : HeadM) (A : Option Addr) (c : Nat), v = headV h A c ∧ h.l.length ≤ c ∧ c ≤ 9223372036854775807 ∧ (h.ok ∧ Fils W A h.l ∧ (∀ f ∈ h.l, f.ok)) := by
  obtain ⟨v0, v1, v2, v3, y0, y1, y2, y3, n, rfl, _, _, h0, h1, h2, h3⟩ := open_agg4 Tryd.underlying25 (by kernel_rfl) cellsHead hval h
  obtain ⟨z0, hz0, _, w0⟩ := DataW.trod_int Tryd.underlying2 h0
  obtain ⟨z1, hz1, _, w1⟩ := DataW.trod_int Tryd.underlying2 h1
  obtain ⟨z3, hz3, _, w3⟩ := DataW.trod_int Tryd.underlying23 h3
  obtain ⟨A, l, c, rfl, hc, hm, hF⟩ := open_fils h2
  injection hz0 with hz0
  injection hz1 with hz1
  injection hz3 with hz3
  subst hz0; subst hz1; subst hz3
  have hb0 := wf_bounds64 w0
  have hb1 := wf_bounds64 w1
  refine ⟨⟨z0, z1, l, (BitVec.ofNat 32 z3.toNat).toNat⟩, A, c, ?_, hc, hm, ⟨hb0.1, hb0.2, hb1.1, hb1.2, (BitVec.ofNat 32 z3.toNat).isLt⟩, hF, ?_⟩
  · simp only [headV]
    rw [← wf_bv32 w3]
  · intro f hf
    rcases hF with rfl | ⟨b, off, _, _, hat⟩
    · cases hf
    · obtain ⟨i, hi, rfl⟩ := List.getElem_of_mem hf
      exact (hat i hi).ok
end Go.Proofs.YtaggkcgeddoogaaDoor
