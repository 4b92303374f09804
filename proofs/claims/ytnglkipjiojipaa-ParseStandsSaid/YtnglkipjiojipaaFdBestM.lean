/- The finder's Best: from the places with the same four bytes, and with the same two, to what the document says. -/
import Derived.Test.YtnglkipjiojipaaFdLong
import Derived.Test.YtnglkipjiojipaaFdPure
namespace Go.Proofs.Ytnglkipjiojipaa
open Go.RowKit

section
variable {d : List UInt8} {place : Nat} {dict : Int}
/-- The best distance, with the first that has the length. -/
def fAt (d : List UInt8) (place L : Nat) (j : Nat) : Nat := eqLen d place (place - j) L
def depth (place : Nat) (dict : Int) : Nat := (min (place : Int) dict).toNat
def S4 (d : List UInt8) (place : Nat) (dict : Int) (j : Nat) : Prop := (j : Int) ≤ dict ∧ Dists place (chain d (four d place) place) j
theorem s4_in {j : Nat} (h : S4 d place dict j) : 1 ≤ j ∧ j ≤ depth place dict := by
  obtain ⟨h1, x, hx, rfl⟩ := h
  have := (mem_chain.1 hx).1
  unfold depth
  omega
theorem s4_of {L j : Nat} (h1 : 1 ≤ j) (h2 : j ≤ depth place dict) (h : 4 ≤ fAt d place L j) : S4 d place dict j := by
  unfold depth at h2
  refine ⟨by omega, place - j, mem_chain.2 ⟨by omega, four_of_len h⟩, by omega⟩
/-- The list of the pairs' places below this one. -/
def S2 (L2 : List Nat) (place : Nat) (dict : Int) (j : Nat) : Prop := (j : Int) ≤ dict ∧ Dists place L2 j
theorem best_four {L n k : Nat} (h : BestOn (S4 d place dict) (fAt d place L) n k) (h4 : 4 ≤ n) : (n, k) = bestTo (fAt d place L) (depth place dict) := by
  have h1 := h.all (m := 4) (fun j hj => s4_in hj) (fun j a b c => s4_of a b c) h4 (by decide)
  obtain ⟨e1, e2⟩ := h1.unique (bestTo_is _ _)
  rw [e1, e2]
theorem no_four {L n k : Nat} (h : BestOn (S4 d place dict) (fAt d place L) n k) (h4 : n < 4) : ∀ j, 1 ≤ j → j ≤ depth place dict → fAt d place L j ≤ 3 := by
  intro j h1 h2
  rcases Nat.lt_or_ge (fAt d place L j) 4 with h3 | h3
  · omega
  · have := h.le j (s4_of h1 h2 h3); omega
/-- What the second list comes to. -/
theorem best_pair {L2 : List Nat} {L M n k : Nat} (hL2 : ∀ x, x ∈ L2 ↔ x < place ∧ d.getD x 0 = d.getD place 0 ∧ d.getD (x + 1) 0 = d.getD (place + 1) 0) (hM : 2 ≤ M) (hML : M ≤ L) (hf : ∀ j, 1 ≤ j → j ≤ depth place dict → fAt d place L j ≤ M)
    (h : BestOn (S2 L2 place dict) (fAt d place M) n k) : (n, k) = if (bestTo (fAt d place L) (depth place dict)).1 < 2 then (0, 0) else bestTo (fAt d place L) (depth place dict) := by
  have hin : ∀ j, S2 L2 place dict j → 1 ≤ j ∧ j ≤ depth place dict := by
    rintro _ ⟨h1, x, hx, rfl⟩
    have := ((hL2 x).1 hx).1
    unfold depth; omega
  have he : ∀ j, 1 ≤ j → j ≤ depth place dict → fAt d place M j = fAt d place L j := fun j h1 h2 => by
    have := hf j h1 h2
    unfold fAt at this ⊢
    rw [eqLen_limit hML]; omega
  have hof : ∀ j, 1 ≤ j → j ≤ depth place dict → 2 ≤ fAt d place L j → S2 L2 place dict j := fun j h1 h2 h3 => by
    unfold depth at h2
    obtain ⟨p1, p2⟩ := pair_of_len h3
    exact ⟨by omega, place - j, (hL2 _).2 ⟨by omega, p1, p2⟩, by omega⟩
  have h2 : BestOn (S2 L2 place dict) (fAt d place L) n k := by
    refine ⟨fun j hj => ?_, fun j hj hlt => ?_, h.at_.imp id fun ⟨a, b, c⟩ => ⟨a, ?_, c⟩⟩
    · obtain ⟨a, b⟩ := hin j hj; rw [← he j a b]; exact h.le j hj
    · obtain ⟨a, b⟩ := hin j hj; rw [← he j a b]; exact h.lt j hj hlt
    · obtain ⟨a', b'⟩ := hin k a; rw [← he k a' b']; exact b
  have hB := bestTo_is (fAt d place L) (depth place dict)
  by_cases hn : 2 ≤ n
  · obtain ⟨e1, e2⟩ := (h2.all (m := 2) hin hof hn (by decide)).unique hB
    rw [if_neg (by omega), e1, e2]
  · have hn0 : n = 0 ∧ k = 0 := by
      rcases h2.at_ with e | ⟨a, b, c⟩
      · exact e
      · exfalso
        obtain ⟨_, x, hx, e⟩ := a
        obtain ⟨x1, x2, x3⟩ := (hL2 x).1 hx
        have : 2 ≤ fAt d place L k := by
          have hk : place - k = x := by omega
          unfold fAt; rw [hk]
          have hl := isLen_eqLen d L place x
          rcases Nat.lt_or_ge (eqLen d place x L) 2 with g | g
          · exfalso
            rcases hl.stop with e1 | e1
            · omega
            · have : eqLen d place x L = 0 ∨ eqLen d place x L = 1 := by omega
              rcases this with e2 | e2 <;> rw [e2] at e1
              · exact e1 x2.symm
              · exact e1 x3.symm
          · exact g
        omega
    have : (bestTo (fAt d place L) (depth place dict)).1 < 2 := by
      rcases hB.at_ with ⟨e, _⟩ | ⟨a, b, c, e⟩
      · omega
      · rcases Nat.lt_or_ge (bestTo (fAt d place L) (depth place dict)).1 2 with g | g
        · exact g
        · have := h2.le _ (hof _ a b (by omega)); omega
    rw [if_pos this, hn0.1, hn0.2]
/-- The pairs' list: those before the place, the nearest first. -/
theorem pair_list {x y : UInt8} {h : Nat} (hx : d.getD place 0 = x) (hy : d.getD (place + 1) 0 = y) (hp : place + 1 < d.length) (hh : h ≤ (places d x y (d.length - 1)).length)
    (hlo : ∀ q (_ : q < (places d x y (d.length - 1)).length), q < h → (places d x y (d.length - 1))[q] < place) (hhi : ∀ q (_ : q < (places d x y (d.length - 1)).length), h ≤ q → place ≤ (places d x y (d.length - 1))[q]) :
    (∀ z, z ∈ ((places d x y (d.length - 1)).take h).reverse ↔ z < place ∧ d.getD z 0 = d.getD place 0 ∧ d.getD (z + 1) 0 = d.getD (place + 1) 0) ∧ ((places d x y (d.length - 1)).take h).reverse.Pairwise (· > ·) := by
  constructor
  · intro z
    rw [List.mem_reverse, hx, hy]
    constructor
    · intro hz
      obtain ⟨q, hq, e⟩ := List.mem_iff_getElem.1 hz
      rw [List.length_take] at hq
      rw [List.getElem_take] at e
      have h1 := hlo q (by omega) (by omega)
      have h2 := mem_places.1 (List.mem_of_mem_take hz)
      exact ⟨by omega, h2.2⟩
    · rintro ⟨h1, h2, h3⟩
      have hm : z ∈ places d x y (d.length - 1) := mem_places.2 ⟨by omega, h2, h3⟩
      obtain ⟨q, hq, e⟩ := List.mem_iff_getElem.1 hm
      rcases Nat.lt_or_ge q h with g | g
      · refine List.mem_iff_getElem.2 ⟨q, by rw [List.length_take]; omega, ?_⟩
        rw [List.getElem_take]; exact e
      · have := hhi q hq g; omega
  · rw [List.pairwise_reverse]
    exact ((places_rise d x y (d.length - 1)).sublist (List.take_sublist _ _)).imp fun h => h
end
end Go.Proofs.Ytnglkipjiojipaa
