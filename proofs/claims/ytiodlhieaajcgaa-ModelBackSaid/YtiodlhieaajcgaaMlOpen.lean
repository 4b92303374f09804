/- What came in: symbols, and bytes with the block where they lie. -/
import Derived.Test.YtiodlhieaajcgaaLift
import Derived.Test.YtiodlhieaajcgaaMlSymAll
import Derived.Deep.Slices
import Derived.Deep.Fields
import Derived.ChangeSame
import Derived.Lib.SmallJoins
namespace Go.Proofs.Ytiodlhieaajcgaa
open Go.ChangeShapes Go.WideShapes Go.ChangeAt Go.RowKit Go.Joins

set_option maxRecDepth 100000 in
theorem has_block {W : World} {b0 : Nat} {t e : TypeId} {a : Addr} {len cap : Nat} (ht : Try.prog.underlying t = some (.slice e)) (h : Value.okWide Try.prog W .any b0 t (.slice (some a) len cap)) : a.block < W.heap.size := by
  simp only [Value.okWide, ht, Cell.okWide, Cell.ok, World.has] at h
  obtain ⟨_, _, _, _, row, cells, hs, _⟩ := h
  rcases Nat.lt_or_ge a.block W.heap.size with h | h
  · exact h
  · unfold World.shape? at hs
    rw [Array.getElem?_eq_none h] at hs
    cases hs
set_option maxRecDepth 100000 in
theorem open_bytesb {H : Type} {enc : TypeId × Value → H} {W : World} {b0 : Nat} {v : Value} {d : DataW H} {p : List MemPlace}
    (hval : Value.okWide Try.prog W .any b0 22 v) (h : DataW.Trod enc Try.prog W 0 (fun _ => true) true 22 v d p) :
    ∃ (A : Option Addr) (l : List UInt8) (c : Nat), v = .slice A l.length c ∧ l.length ≤ c ∧ c ≤ 9223372036854775807 ∧ (Bytes W A l ∧ ∀ a, A = some a → a.block < W.heap.size) := by
  obtain ⟨A, l, c, rfl, h1, h2, h3⟩ := open_bytes hval h
  refine ⟨A, l, c, rfl, h1, h2, h3, fun a e => ?_⟩
  subst e
  exact has_block Try.underlying22 hval
theorem cellsSym : Try.prog.cellsOf 38 = 5 := by kernel_rfl
set_option maxRecDepth 100000 in
theorem one_field {H : Type} {enc : TypeId × Value → H} {W : World} {n : Nat} {t : TypeId} {k : IntKind} {cs : List Value} {j : Nat} {y : Option (DataW H × List MemPlace)} (hk : Try.prog.underlying t = some (.int k)) (hl : j < cs.length)
    (hy : y.isSome = true) (h : DataW.trod enc Try.prog W 0 (fun _ => true) true n t ((cs.drop j).take 1) = y) : ∃ z, cs[j]? = some (.int k z) ∧ (Lit.int k z).wf = true := by
  obtain ⟨x, rfl⟩ := Option.isSome_iff_exists.1 hy
  obtain ⟨z, hz, _, hw⟩ := DataW.trod_int hk h
  refine ⟨z, ?_, hw⟩
  have e : (cs.drop j).take 1 = [cs[j]] := by rw [List.drop_eq_getElem_cons hl]; rfl
  rw [e] at hz
  injection hz with hz
  rw [List.getElem?_eq_getElem hl, hz]
theorem add_none (b o k : Nat) : (⟨b, o, none⟩ : Addr).add k = ⟨b, o + k, none⟩ := by
  unfold Addr.add; split <;> simp_all
theorem wf_byte {z : Int} (h : (Lit.int .u8 z).wf = true) : ∃ b : UInt8, z = (b.toNat : Nat) := by
  have h1 : IntKind.u8.min = 0 := rfl
  have h2 : IntKind.u8.max = 255 := rfl
  simp [Lit.wf] at h
  exact ⟨UInt8.ofNat z.toNat, by rw [UInt8.toNat_ofNat']; omega⟩
instance : Inhabited SyI := ⟨⟨0, 0, 0, 0, 0⟩⟩
set_option maxRecDepth 100000 in
theorem open_syms {H : Type} {enc : TypeId × Value → H} {W : World} {b0 : Nat} {v : Value} {d : DataW H} {p : List MemPlace}
    (hval : Value.okWide Try.prog W .any b0 23 v) (h : DataW.Trod enc Try.prog W 0 (fun _ => true) true 23 v d p) :
    ∃ (A : Option Addr) (l : List SyI) (c : Nat), v = .slice A l.length c ∧ l.length ≤ c ∧ c ≤ 9223372036854775807 ∧ Syms W A l := by
  obtain ⟨fuel, hf⟩ := h
  obtain ⟨a0, len, cap, rfl⟩ := okWide_slice Try.underlying23 hval
  rcases Go.Deep.open_slice Try.underlying23 hf with ⟨hcs, _⟩ | ⟨a, len', cap', m, n, D, Pl, hcs, _, hl, hm, hmm, _, hi⟩
  · simp [Value.cells] at hcs
    obtain ⟨rfl, rfl, rfl⟩ := hcs
    exact ⟨none, [], 0, rfl, by simp, by omega, .inl rfl⟩
  · simp [Value.cells] at hcs
    obtain ⟨rfl, rfl, rfl⟩ := hcs
    simp only [if_true] at hmm
    unfold maxLen at hm
    obtain ⟨b, off, spot⟩ := a
    have hsp : 0 < len → spot = none := by
      intro hpos
      obtain ⟨cs', hc, _⟩ := hi 0 (by omega)
      rw [cellsSym] at hc
      obtain ⟨_, hcl, hat⟩ := World.cells?_some hc
      have := World.cell?_spot ((hat 0 (by omega)).trans (List.getElem?_eq_getElem (by omega)))
      simpa [Addr.add] using this
    have key : ∀ i, i < len → spot = none ∧ b < W.heap.size ∧ ∃ f : SyI, W.cell? ⟨b, off + i * 5, none⟩ = some (.int .i64 f.k) ∧ W.cell? ⟨b, off + i * 5 + 1, none⟩ = some (.int .u8 (f.b.toNat : Nat)) ∧ W.cell? ⟨b, off + i * 5 + 2, none⟩ = some (.int .i64 f.l) ∧ W.cell? ⟨b, off + i * 5 + 3, none⟩ = some (.int .i64 f.d) ∧ W.cell? ⟨b, off + i * 5 + 4, none⟩ = some (.int .i64 f.r) := by
      intro i hil
      obtain ⟨cs', hc, ht⟩ := hi i (by omega)
      rw [cellsSym] at hc
      obtain ⟨_, hcl, hat⟩ := World.cells?_some hc
      obtain ⟨ys, n', _, _, _, hyl, hf⟩ := DataW.trod_struct Try.underlying38 ht
      have hsome : ∀ j, j < 5 → ys[j]?.isSome = true := fun j hj => by
        rw [List.getElem?_eq_getElem (by rw [hyl]; exact hj)]; rfl
      obtain ⟨z0, e0, w0⟩ := one_field (j := 0) Try.underlying3 (by omega) (hsome 0 (by omega)) (hf 0 _ rfl)
      obtain ⟨z1, e1, w1⟩ := one_field (j := 1) Try.underlying5 (by omega) (hsome 1 (by omega)) (hf 1 _ rfl)
      obtain ⟨z2, e2, w2⟩ := one_field (j := 2) Try.underlying3 (by omega) (hsome 2 (by omega)) (hf 2 _ rfl)
      obtain ⟨z3, e3, w3⟩ := one_field (j := 3) Try.underlying3 (by omega) (hsome 3 (by omega)) (hf 3 _ rfl)
      obtain ⟨z4, e4, w4⟩ := one_field (j := 4) Try.underlying3 (by omega) (hsome 4 (by omega)) (hf 4 _ rfl)
      have hspot : spot = none := hsp (by omega)
      subst hspot
      have hadd : ∀ j, ((⟨b, off, none⟩ : Addr).add (i * 5)).add j = ⟨b, off + i * 5 + j, none⟩ := by
        intro j; rw [add_none, add_none]
      have h0 := (hat 0 (by omega)).trans e0
      have h1 := (hat 1 (by omega)).trans e1
      have h2 := (hat 2 (by omega)).trans e2
      have h3 := (hat 3 (by omega)).trans e3
      have h4 := (hat 4 (by omega)).trans e4
      rw [hadd] at h0 h1 h2 h3 h4
      obtain ⟨y, rfl⟩ := wf_byte w1
      exact ⟨rfl, block_lt_of_cell h0, ⟨z0, y, z2, z3, z4⟩, h0, h1, h2, h3, h4⟩
    refine ⟨some ⟨b, off, spot⟩, (List.range len).map (fun i => if h : i < len then Classical.choose (key i h).2.2 else default), cap, by simp, by simpa using hl, hm, ?_⟩
    rcases Nat.eq_zero_or_pos len with h0 | hpos
    · subst h0; exact .inl rfl
    · obtain ⟨rfl, hb, _⟩ := key 0 hpos
      refine .inr ⟨b, off, rfl, hb, fun i hil => ?_⟩
      have hil' : i < len := by simpa using hil
      have := Classical.choose_spec (key i hil').2.2
      rw [List.getElem_map, List.getElem_range, dif_pos hil']
      exact this
theorem trodAll_five {H : Type} {enc : TypeId × Value → H} {P : Program} {w : World} {base : Nat} {spare : Nat → Bool} {held : Bool} {t t' t'' t3 t4 : TypeId} {args : Array Value} {ds : List (DataW H)} {ps : List MemPlace} (h : DataW.TrodAll enc P w base spare held [t, t', t'', t3, t4] args.toList ds ps) :
    ∃ v v' v'' v3 v4 d d' d'' d3 d4 p p' p'' p3 p4, args = #[v, v', v'', v3, v4] ∧ ds = [d, d', d'', d3, d4] ∧ ps = p ++ p' ++ p'' ++ p3 ++ p4 ∧ DataW.Trod enc P w base spare held t v d p ∧ DataW.Trod enc P w base spare held t' v' d' p' ∧ DataW.Trod enc P w base spare held t'' v'' d'' p'' ∧ DataW.Trod enc P w base spare held t3 v3 d3 p3 ∧ DataW.Trod enc P w base spare held t4 v4 d4 p4 := by
  obtain ⟨v, vs, d, ds', p, q, hargs, rfl, rfl, hd, hrest⟩ := trodAll_cons h
  obtain ⟨v', vs', d', ds'', p', q', rfl, rfl, rfl, hd', hrest'⟩ := trodAll_cons hrest
  obtain ⟨v'', vs'', d'', ds''', p'', q'', rfl, rfl, rfl, hd'', hrest''⟩ := trodAll_cons hrest'
  obtain ⟨v3, vs3, d3, ds3, p3, q3, rfl, rfl, rfl, hd3, hrest3⟩ := trodAll_cons hrest''
  obtain ⟨v4, vs4, d4, ds4, p4, q4, rfl, rfl, rfl, hd4, hrest4⟩ := trodAll_cons hrest3
  obtain ⟨rfl, rfl, rfl⟩ := trodAll_nil hrest4
  exact ⟨v, v', v'', v3, v4, d, d', d'', d3, d4, p, p', p'', p3, p4, by cases args; simp_all, rfl, by simp, hd, hd', hd'', hd3, hd4⟩
end Go.Proofs.Ytiodlhieaajcgaa
