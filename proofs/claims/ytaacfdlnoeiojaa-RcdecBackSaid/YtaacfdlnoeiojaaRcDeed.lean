/- A slice of deeds that came in: its address reads as deeds. -/
import Derived.Test.YtaacfdlnoeiojaaLift
import Derived.Deep.Slices
import Derived.Deep.Fields
import Derived.ChangeSame
namespace Go.Proofs.Ytaacfdlnoeiojaa
open Go.ChangeShapes Go.WideShapes Go.ChangeAt Go.RowKit

/-- Something that is coded. -/
structure Deed where
  what : Int
  chance : BitVec 16
  bit : Int
  v : BitVec 32
  n : Int

/-- A deed's five cells from an offset on. -/
structure DeedAt (w : World) (b o : Nat) (d : Deed) : Prop where
  c0 : w.cell? ⟨b, o, none⟩ = some (.int .i64 d.what)
  c1 : w.cell? ⟨b, o + 1, none⟩ = some (.int .u16 d.chance.toNat)
  c2 : w.cell? ⟨b, o + 2, none⟩ = some (.int .i64 d.bit)
  c3 : w.cell? ⟨b, o + 3, none⟩ = some (.int .u32 d.v.toNat)
  c4 : w.cell? ⟨b, o + 4, none⟩ = some (.int .i64 d.n)
  bw : -9223372036854775808 ≤ d.what ∧ d.what ≤ 9223372036854775807
  bb : -9223372036854775808 ≤ d.bit ∧ d.bit ≤ 9223372036854775807
  bn : -9223372036854775808 ≤ d.n ∧ d.n ≤ 9223372036854775807

def Deeds (w : World) (A : Option Addr) (len : Nat) (D : Nat → Deed) : Prop :=
  len = 0 ∨ ∃ b off, A = some ⟨b, off, none⟩ ∧ b < w.heap.size ∧ ∀ i, i < len → DeedAt w b (off + i * 5) (D i)

theorem Deeds.below {w w' : World} {A : Option Addr} {len : Nat} {D : Nat → Deed} (h : Deeds w A len D) (hb : Below w.heap.size w w') : Deeds w' A len D := by
  rcases h with h | ⟨b, off, rfl, hlt, h⟩
  · exact .inl h
  · refine .inr ⟨b, off, rfl, Nat.lt_of_lt_of_le hlt hb.size, fun i hi => ?_⟩
    have k := h i hi
    exact ⟨(hb.cell (p := ⟨b, _, none⟩) hlt).trans k.c0, (hb.cell (p := ⟨b, _, none⟩) hlt).trans k.c1, (hb.cell (p := ⟨b, _, none⟩) hlt).trans k.c2, (hb.cell (p := ⟨b, _, none⟩) hlt).trans k.c3, (hb.cell (p := ⟨b, _, none⟩) hlt).trans k.c4, k.bw, k.bb, k.bn⟩

theorem cellsDeed : Try.prog.cellsOf 35 = 5 := by kernel_rfl

theorem one_field {H : Type} {enc : TypeId × Value → H} {W : World} {n : Nat} {t : TypeId} {k : IntKind} {cs : List Value} {j : Nat} {y : Option (DataW H × List MemPlace)} (hk : Try.prog.underlying t = some (.int k)) (hl : j < cs.length)
    (hy : y.isSome = true) (h : DataW.trod enc Try.prog W 0 (fun _ => true) true n t ((cs.drop j).take 1) = y) : ∃ z, cs[j]? = some (.int k z) ∧ (Lit.int k z).wf = true := by
  obtain ⟨x, rfl⟩ := Option.isSome_iff_exists.1 hy
  obtain ⟨z, hz, _, hw⟩ := DataW.trod_int hk h
  refine ⟨z, ?_, hw⟩
  have e : (cs.drop j).take 1 = [cs[j]] := by rw [List.drop_eq_getElem_cons hl]; rfl
  rw [e] at hz
  injection hz with hz
  rw [List.getElem?_eq_getElem hl, hz]

theorem add_none (b o k : Nat) : (⟨b, o, none⟩ : Addr).add k = ⟨b, o + k, none⟩ := by
  unfold Addr.add; split <;> simp_all

theorem open_deeds {H : Type} {enc : TypeId × Value → H} {W : World} {b0 : Nat} {v : Value} {d : DataW H} {p : List MemPlace}
    (hval : Value.okWide Try.prog W .any b0 23 v) (h : DataW.Trod enc Try.prog W 0 (fun _ => true) true 23 v d p) :
    ∃ (A : Option Addr) (len c : Nat) (D : Nat → Deed), v = .slice A len c ∧ len ≤ c ∧ c ≤ 9223372036854775807 ∧ Deeds W A len D := by
  obtain ⟨fuel, hf⟩ := h
  obtain ⟨a0, len, cap, rfl⟩ := okWide_slice Try.underlying23 hval
  rcases Go.Deep.open_slice Try.underlying23 hf with ⟨hcs, _⟩ | ⟨a, len', cap', m, n, D, Pl, hcs, _, hl, hm, hmm, _, hi⟩
  · simp [Value.cells] at hcs
    obtain ⟨rfl, rfl, rfl⟩ := hcs
    exact ⟨none, 0, 0, fun _ => ⟨0, 0, 0, 0, 0⟩, rfl, by omega, by omega, .inl rfl⟩
  · simp [Value.cells] at hcs
    obtain ⟨rfl, rfl, rfl⟩ := hcs
    simp only [if_true] at hmm
    unfold maxLen at hm
    obtain ⟨b, off, spot⟩ := a
    have hsp : 0 < len → spot = none := by
      intro hpos
      obtain ⟨cs', hc, _⟩ := hi 0 (by omega)
      rw [cellsDeed] at hc
      obtain ⟨_, hcl, hat⟩ := World.cells?_some hc
      have := World.cell?_spot ((hat 0 (by omega)).trans (List.getElem?_eq_getElem (by omega)))
      simpa [Addr.add] using this
    have key : ∀ i, i < len → spot = none ∧ b < W.heap.size ∧ ∃ d, DeedAt W b (off + i * 5) d := by
      intro i hil
      obtain ⟨cs', hc, ht⟩ := hi i (by omega)
      rw [cellsDeed] at hc
      obtain ⟨_, hcl, hat⟩ := World.cells?_some hc
      obtain ⟨ys, n', _, _, _, hyl, hf⟩ := DataW.trod_struct Try.underlying35 ht
      have hsome : ∀ j, j < 5 → ys[j]?.isSome = true := fun j hj => by
        rw [List.getElem?_eq_getElem (by rw [hyl]; exact hj)]; rfl
      obtain ⟨z0, e0, w0⟩ := one_field (j := 0) Try.underlying3 (by omega) (hsome 0 (by omega)) (hf 0 _ rfl)
      obtain ⟨z1, e1, w1⟩ := one_field (j := 1) Try.underlying32 (by omega) (hsome 1 (by omega)) (hf 1 _ rfl)
      obtain ⟨z2, e2, w2⟩ := one_field (j := 2) Try.underlying3 (by omega) (hsome 2 (by omega)) (hf 2 _ rfl)
      obtain ⟨z3, e3, w3⟩ := one_field (j := 3) Try.underlying33 (by omega) (hsome 3 (by omega)) (hf 3 _ rfl)
      obtain ⟨z4, e4, w4⟩ := one_field (j := 4) Try.underlying3 (by omega) (hsome 4 (by omega)) (hf 4 _ rfl)
      have hspot : spot = none := hsp (by omega)
      subst hspot
      have hadd : ∀ j, ((⟨b, off, none⟩ : Addr).add (i * 5)).add j = ⟨b, off + i * 5 + j, none⟩ := by
        intro j; rw [add_none, add_none]
      have h0 := (hat 0 (by omega)).trans e0
      have h1 := (hat 1 (by omega)).trans e1
      have h2 := (hat 2 (by omega)).trans e2
      have h3 := (hat 3 (by omega)).trans e3
      have h4 := (hat 4 (by omega)).trans e4
      rw [hadd] at h0 h1 h2 h3 h4
      refine ⟨rfl, ?_, ⟨z0, BitVec.ofNat 16 z1.toNat, z2, BitVec.ofNat 32 z3.toNat, z4⟩, h0, ?_, h2, ?_, h4, wf_bounds64 w0, wf_bounds64 w2, wf_bounds64 w4⟩
      · exact block_lt_of_cell h0
      · rw [← wf_bv16 w1]; exact h1
      · rw [← wf_bv32 w3]; exact h3
    refine ⟨some ⟨b, off, spot⟩, len, cap, fun i => if h : i < len then Classical.choose (key i h).2.2 else ⟨0, 0, 0, 0, 0⟩, rfl, hl, hm, ?_⟩
    rcases Nat.eq_zero_or_pos len with h0 | hpos
    · exact .inl h0
    · obtain ⟨rfl, hb, _⟩ := key 0 hpos
      refine .inr ⟨b, off, rfl, hb, fun i hil => ?_⟩
      have := Classical.choose_spec (key i hil).2.2
      show DeedAt W b (off + i * 5) (dite _ _ _)
      rw [dif_pos hil]; exact this
end Go.Proofs.Ytaacfdlnoeiojaa
