/- The pool and its reference side by side; a slice of numbers that came in. -/
import Derived.Test.YtfjpggpgiojmhaaPoRStep
import Derived.Test.YtfjpggpgiojmhaaPoKnows
import Derived.Test.YtfjpggpgiojmhaaLift
namespace Go.Proofs.Ytfjpggpgiojmhaa
open Go.ChangeShapes Go.WideShapes Go.ChangeAt Go.RowKit

structure Side (B hb mb B2 g lo : Nat) : Prop where
  a1 : B2 ≠ B
  a2 : B2 ≠ hb
  a3 : B2 ≠ mb
  b1 : g ≠ B
  b2 : g ≠ hb
  b3 : g ≠ mb
  c1 : lo ≤ B
  c2 : lo ≤ hb
  c3 : lo ≤ mb
  c4 : lo ≤ g
structure Both (lo : Nat) (w0 w : World) (B hb mb B2 g : Nat) (P : PoolM) (L : List Int) : Prop where
  pool : PoolAt w B hb mb P
  tied : Tied w B2 g P L
  below : Below lo w0 w
  size : lo ≤ w.heap.size
theorem Both.drewN {lo : Nat} {w0 w : World} {B hb mb B2 g : Nat} {P : PoolM} {L : List Int} (h : Both lo w0 w B hb mb B2 g P L) (m : Nat) : Both lo w0 (w.drewN m) B hb mb B2 g P L :=
  ⟨h.pool.keep rfl rfl rfl, h.tied.keep rfl rfl, below_drewN h.below m, h.size⟩
theorem Both.next {lo : Nat} {w0 w w' : World} {B hb mb B2 g : Nat} {P : PoolM} {L : List Int} (h : Both lo w0 w B hb mb B2 g P L) (hb' : Below w.heap.size w w') : Both lo w0 w' B hb mb B2 g P L :=
  ⟨h.pool.below hb', h.tied.below hb', h.below.trans (hb'.mono h.size), Nat.le_trans h.size hb'.size⟩
theorem Both.same {lo : Nat} {w0 w w' : World} {B hb mb B2 g : Nat} {P : PoolM} {L : List Int} (h : Both lo w0 w B hb mb B2 g P L) (hs : Side B hb mb B2 g lo) (hf : PFr B hb mb w w') (hP : PoolAt w' B hb mb P) : Both lo w0 w' B hb mb B2 g P L :=
  ⟨hP, h.tied.keep (hf.block _ h.tied.ref.lt.1 hs.a1 hs.a2 hs.a3) (hf.block _ h.tied.ref.lt.2 hs.b1 hs.b2 hs.b3), hf.below h.below h.size hs.c1 hs.c2 hs.c3, Nat.le_trans h.size hf.size⟩
/-- Behind the pool's step, before the reference's. -/
structure Mid (lo : Nat) (w0 w : World) (B hb mb B2 g : Nat) (P P' : PoolM) (L : List Int) : Prop where
  pool : PoolAt w B hb mb P'
  tied : Tied w B2 g P L
  below : Below lo w0 w
  size : lo ≤ w.heap.size
  nx : Next P P'
theorem Both.mid {lo : Nat} {w0 w w' : World} {B hb mb B2 g : Nat} {P P' : PoolM} {L : List Int} {a : Int} {j : Nat} (h : Both lo w0 w B hb mb B2 g P L) (hs : Side B hb mb B2 g lo) (hf : PFr B hb mb w w') (hP : PoolAt w' B hb mb P') (hA : P.act a = some (j, P')) : Mid lo w0 w' B hb mb B2 g P P' L :=
  ⟨hP, h.tied.keep (hf.block _ h.tied.ref.lt.1 hs.a1 hs.a2 hs.a3) (hf.block _ h.tied.ref.lt.2 hs.b1 hs.b2 hs.b3), hf.below h.below h.size hs.c1 hs.c2 hs.c3, Nat.le_trans h.size hf.size, act_next h.tied.inv h.pool.pos hA⟩
theorem Mid.both {lo : Nat} {w0 w : World} {B hb mb B2 g : Nat} {P P' : PoolM} {L : List Int} {j : Nat} {t : Int} (m : Nat) (h : Mid lo w0 w B hb mb B2 g P P' L) (hs : Side B hb mb B2 g lo) (hr : Rel P' (L.set j t)) : Both lo w0 ((w.drewN m).setCell ⟨g, j, none⟩ (.int .i64 t)) B hb mb B2 g P' (L.set j t) := by
  have e := fun x (hx : g ≠ x) => heap_setCell_other (w.drewN m) ⟨g, j, none⟩ (.int .i64 t) x (fun h => hx h.symm)
  have h2 := (h.tied.keep (w' := w.drewN m) rfl rfl).ref.set j t
  rw [← h.nx.n, ← h.nx.R] at h2
  exact ⟨h.pool.keep (e _ hs.b1) (e _ hs.b2) (e _ hs.b3), ⟨h2, hr, h.nx.inv⟩, Below.setCell (p := ⟨g, j, none⟩) (below_drewN h.below m) hs.c4 _, by simpa using h.size⟩
theorem ReadI.of {b : Nat} {w : World} {l : List Nat} {v : Value} (h : OwnV 3 b w v (intsV l)) : ∃ A c, v = .slice A l.length c ∧ l.length ≤ c ∧ c ≤ 9223372036854775807 ∧ ReadI w A l := by
  obtain ⟨A, c, rfl, h1, h2, h3⟩ := h.read
  rw [intsV_len] at h1
  refine ⟨A, c, by rw [intsV_len], h1, h2, fun i hi => ?_⟩
  obtain ⟨g, e1, e2⟩ := h3 i (by rw [intsV_len]; exact hi)
  exact ⟨g, e1, by rw [e2]; simp [intsV]⟩
theorem ReadI.below {w w' : World} {A : Option Addr} {l : List Nat} (h : ReadI w A l) (hb : Below w.heap.size w w') : ReadI w' A l := fun i hi => by
  obtain ⟨g, e1, e2⟩ := h i hi
  refine ⟨g, e1, ?_⟩
  have hlt := block_lt_of_cell e2
  rw [← e2]; unfold World.cell?; rw [hb.block g hlt]
/-- A slice of numbers that came in. -/
def IntRow (w : World) (A : Option Addr) (l : List Int) : Prop := l = [] ∨ ∃ b off, A = some ⟨b, off, none⟩ ∧ b < w.heap.size ∧ ∀ k (h : k < l.length), w.cell? ⟨b, off + k, none⟩ = some (.int .i64 l[k]) ∧ -9223372036854775808 ≤ l[k] ∧ l[k] ≤ 9223372036854775807
theorem IntRow.at {w w' : World} {A : Option Addr} {l : List Int} (h : IntRow w A l) (hb : Below w.heap.size w w') (k : Nat) (hk : k < l.length) : ∃ b off, A = some ⟨b, off, none⟩ ∧ w'.cell? ⟨b, off + k, none⟩ = some (.int .i64 l[k]) ∧ -9223372036854775808 ≤ l[k] ∧ l[k] ≤ 9223372036854775807 := by
  rcases h with rfl | ⟨b, off, rfl, hlt, h⟩
  · cases hk
  · obtain ⟨h1, h2, h3⟩ := h k hk
    refine ⟨b, off, rfl, ?_, h2, h3⟩
    rw [← h1]; unfold World.cell?; rw [hb.block b hlt]
theorem cellsInt : Try.prog.cellsOf 3 = 1 := by kernel_rfl
set_option maxRecDepth 100000 in
theorem open_intRow {H : Type} {enc : TypeId × Value → H} {W : World} {b0 : Nat} {v : Value} {d : DataW H} {p : List MemPlace}
    (hval : Value.okWide Try.prog W .any b0 22 v) (h : DataW.Trod enc Try.prog W 0 (fun _ => true) true 22 v d p) :
    ∃ (A : Option Addr) (l : List Int) (c : Nat), v = .slice A l.length c ∧ l.length ≤ c ∧ c ≤ 9223372036854775807 ∧ IntRow W A l := by
  obtain ⟨fuel, hf⟩ := h
  obtain ⟨a0, len, cap, rfl⟩ := okWide_slice Try.underlying22 hval
  rcases open_ints Try.underlying22 Try.underlying3 cellsInt hf with ⟨hcs, _⟩ | ⟨a, len', cap', zs, hcs, _, hl, hm, hz, _, hcell, hwz⟩
  · simp [Value.cells] at hcs
    obtain ⟨rfl, rfl, rfl⟩ := hcs
    exact ⟨none, [], 0, rfl, by simp, by omega, .inl rfl⟩
  · simp [Value.cells] at hcs
    obtain ⟨rfl, rfl, rfl⟩ := hcs
    simp only [if_true] at hz
    unfold maxLen at hm
    refine ⟨some a, zs.take len, cap, by rw [List.length_take, Nat.min_eq_left (by omega)], by simp; omega, hm, ?_⟩
    rcases Nat.eq_zero_or_pos len with h0 | hpos
    · subst h0; exact .inl (by simp)
    · obtain ⟨b, off, spot⟩ := a
      have hspot : spot = none := by simpa [Addr.add] using World.cell?_spot (hcell 0 (by omega))
      subst hspot
      refine .inr ⟨b, off, rfl, ?_, fun k hk => ?_⟩
      · have := block_lt_of_cell (hcell 0 (by omega)); simpa [Addr.add] using this
      · have hk' : k < len := by simp at hk; omega
        have hc := hcell k (by omega)
        have hw := hwz (zs[k]'(by omega)) (List.getElem_mem _)
        rw [show (⟨b, off, none⟩ : Addr).add k = ⟨b, off + k, none⟩ from by unfold Addr.add; split <;> simp_all] at hc
        have e : zs.getD k 0 = zs[k]'(by omega) := by simp [List.getD, show k < zs.length by omega]
        rw [hc, e, List.getElem_take]
        exact ⟨rfl, wf_bounds64 hw⟩
end Go.Proofs.Ytfjpggpgiojmhaa
