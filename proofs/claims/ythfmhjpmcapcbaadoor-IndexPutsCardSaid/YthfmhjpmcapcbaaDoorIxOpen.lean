/- Records that came in: a slice of them. -/
import Derived.Test.YthfmhjpmcapcbaaDoorLift
import Derived.Test.YthfmhjpmcapcbaaDoorIxAs
import Derived.Test.YthfmhjpmcapcbaaDoorIxPut
import Derived.Deep.Slices
import Derived.Deep.Fields
import Derived.ChangeSame
import Derived.Lib.SmallJoins
namespace Go.Proofs.YthfmhjpmcapcbaaDoor
open Go.ChangeShapes Go.WideShapes Go.ChangeAt Go.RowKit Go.Joins

theorem cellsRec : Tryd.prog.cellsOf 44 = 2 := by kernel_rfl
set_option maxRecDepth 100000 in
theorem one_field {H : Type} {enc : TypeId × Value → H} {W : World} {n : Nat} {t : TypeId} {k : IntKind} {cs : List Value} {j : Nat} {y : Option (DataW H × List MemPlace)} (hk : Tryd.prog.underlying t = some (.int k)) (hl : j < cs.length)
    (hy : y.isSome = true) (h : DataW.trod enc Tryd.prog W 0 (fun _ => true) true n t ((cs.drop j).take 1) = y) : ∃ z, cs[j]? = some (.int k z) ∧ (Lit.int k z).wf = true := by
  obtain ⟨x, rfl⟩ := Option.isSome_iff_exists.1 hy
  obtain ⟨z, hz, _, hw⟩ := DataW.trod_int hk h
  refine ⟨z, ?_, hw⟩
  have e : (cs.drop j).take 1 = [cs[j]] := by rw [List.drop_eq_getElem_cons hl]; rfl
  rw [e] at hz
  injection hz with hz
  rw [List.getElem?_eq_getElem hl, hz]
theorem add_none (b o k : Nat) : (⟨b, o, none⟩ : Addr).add k = ⟨b, o + k, none⟩ := by
  unfold Addr.add; split <;> simp_all

set_option maxRecDepth 100000 in
theorem open_recs {H : Type} {enc : TypeId × Value → H} {W : World} {b0 : Nat} {v : Value} {d : DataW H} {p : List MemPlace}
    (hval : Value.okWide Tryd.prog W .any b0 22 v) (h : DataW.Trod enc Tryd.prog W 0 (fun _ => true) true 22 v d p) :
    ∃ (A : Option Addr) (l : List (Int × Int)) (c : Nat), v = .slice A l.length c ∧ l.length ≤ c ∧ c ≤ 9223372036854775807 ∧ (Recs W A l ∧ ∀ r ∈ l, I64R r) := by
  obtain ⟨fuel, hf⟩ := h
  obtain ⟨a0, len, cap, rfl⟩ := okWide_slice Tryd.underlying22 hval
  rcases Go.Deep.open_slice Tryd.underlying22 hf with ⟨hcs, _⟩ | ⟨a, len', cap', m, n, D, Pl, hcs, _, hl, hm, hmm, _, hi⟩
  · simp [Value.cells] at hcs
    obtain ⟨rfl, rfl, rfl⟩ := hcs
    exact ⟨none, [], 0, rfl, by simp, by omega, .inl rfl, by simp⟩
  · simp [Value.cells] at hcs
    obtain ⟨rfl, rfl, rfl⟩ := hcs
    simp only [if_true] at hmm
    unfold maxLen at hm
    obtain ⟨b, off, spot⟩ := a
    have hsp : 0 < len → spot = none := by
      intro hpos
      obtain ⟨cs', hc, _⟩ := hi 0 (by omega)
      rw [cellsRec] at hc
      obtain ⟨_, hcl, hat⟩ := World.cells?_some hc
      have := World.cell?_spot ((hat 0 (by omega)).trans (List.getElem?_eq_getElem (by omega)))
      simpa [Addr.add] using this
    have key : ∀ i, i < len → spot = none ∧ b < W.heap.size ∧ ∃ f : Int × Int, W.cell? ⟨b, off + i * 2, none⟩ = some (.int .i64 f.1) ∧ W.cell? ⟨b, off + i * 2 + 1, none⟩ = some (.int .i64 f.2) ∧ I64R f := by
      intro i hil
      obtain ⟨cs', hc, ht⟩ := hi i (by omega)
      rw [cellsRec] at hc
      obtain ⟨_, hcl, hat⟩ := World.cells?_some hc
      obtain ⟨ys, n', _, _, _, hyl, hf⟩ := DataW.trod_struct Tryd.underlying44 ht
      have hsome : ∀ j, j < 2 → ys[j]?.isSome = true := fun j hj => by
        rw [List.getElem?_eq_getElem (by rw [hyl]; exact hj)]; rfl
      obtain ⟨z0, e0, w0⟩ := one_field (j := 0) Tryd.underlying2 (by omega) (hsome 0 (by omega)) (hf 0 _ rfl)
      obtain ⟨z1, e1, w1⟩ := one_field (j := 1) Tryd.underlying2 (by omega) (hsome 1 (by omega)) (hf 1 _ rfl)
      have hspot : spot = none := hsp (by omega)
      subst hspot
      have hadd : ∀ j, ((⟨b, off, none⟩ : Addr).add (i * 2)).add j = ⟨b, off + i * 2 + j, none⟩ := by
        intro j; rw [add_none, add_none]
      have h0 := (hat 0 (by omega)).trans e0
      have h1 := (hat 1 (by omega)).trans e1
      rw [hadd] at h0 h1
      have hz := wf_bounds64 w0
      have hz2 := wf_bounds64 w1
      exact ⟨rfl, block_lt_of_cell h0, (z0, z1), h0, h1, hz.1, hz.2, hz2.1, hz2.2⟩
    refine ⟨some ⟨b, off, spot⟩, (List.range len).map (fun i => if h : i < len then Classical.choose (key i h).2.2 else (0, 0)), cap, by simp, by simpa using hl, hm, ?_⟩
    refine ⟨?_, fun r hr => ?_⟩
    · rcases Nat.eq_zero_or_pos len with h0 | hpos
      · subst h0; exact .inl rfl
      · obtain ⟨rfl, hb, _⟩ := key 0 hpos
        refine .inr ⟨b, off, rfl, hb, fun i hil => ?_⟩
        have hil' : i < len := by simpa using hil
        have := Classical.choose_spec (key i hil').2.2
        rw [List.getElem_map, List.getElem_range, dif_pos hil']; exact ⟨this.1, this.2.1⟩
    · obtain ⟨i, hi, rfl⟩ := List.mem_map.1 hr
      have hil' : i < len := by simpa using hi
      rw [dif_pos hil']
      exact (Classical.choose_spec (key i hil').2.2).2.2
end Go.Proofs.YthfmhjpmcapcbaaDoor
