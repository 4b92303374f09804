/- Several texts in one: FdBestM, FdPairMem. -/
import Derived.Test.YtkckjjchfccdjaaFdLong
import Derived.Test.YtkckjjchfccdjaaMg17
import Derived.Test.YtkckjjchfccdjaaMg7
import Derived.Test.YtkckjjchfccdjaaMg18
import Derived.Test.YtkckjjchfccdjaaMg19
import Derived.Test.YtkckjjchfccdjaaMg1
/- The finder's Best: from the places with the same four bytes, and with the same two, to what the document says. -/
namespace Go.Proofs.Ytkckjjchfccdjaa
set_option maxRecDepth 100000
open Go.RowKit

section
variable {d : List UInt8} {place : Nat} {dict : Int}
/-- The best distance, with the first that has the length. -/
def fAt (d : List UInt8) (place L : Nat) (j : Nat) : Nat := eqLen d place (place - j) L
def depth (place : Nat) (dict : Int) : Nat := (min (place : Int) dict).toNat
def S4 (d : List UInt8) (place : Nat) (dict : Int) (j : Nat) : Prop := (j : Int) ≤ dict ∧ Dists place (chain d (four d place) place) j
theorem s4_in {j : Nat} (h : S4 d place dict j) : 1 ≤ j ∧ j ≤ depth place dict := by
  obtain ⟨h1, x, hx, rfl⟩ := h
  have := (mem_chain.1 hx).1
  unfold depth
  omega
theorem s4_of {L j : Nat} (h1 : 1 ≤ j) (h2 : j ≤ depth place dict) (h : 4 ≤ fAt d place L j) : S4 d place dict j := by
  unfold depth at h2
  refine ⟨by omega, place - j, mem_chain.2 ⟨by omega, four_of_len h⟩, by omega⟩
/-- The list of the pairs' places below this one. -/
def S2 (L2 : List Nat) (place : Nat) (dict : Int) (j : Nat) : Prop := (j : Int) ≤ dict ∧ Dists place L2 j
theorem best_four {L n k : Nat} (h : BestOn (S4 d place dict) (fAt d place L) n k) (h4 : 4 ≤ n) : (n, k) = bestTo (fAt d place L) (depth place dict) := by
  have h1 := h.all (m := 4) (fun j hj => s4_in hj) (fun j a b c => s4_of a b c) h4 (by decide)
  obtain ⟨e1, e2⟩ := h1.unique (bestTo_is _ _)
  rw [e1, e2]
theorem no_four {L n k : Nat} (h : BestOn (S4 d place dict) (fAt d place L) n k) (h4 : n < 4) : ∀ j, 1 ≤ j → j ≤ depth place dict → fAt d place L j ≤ 3 := by
  intro j h1 h2
  rcases Nat.lt_or_ge (fAt d place L j) 4 with h3 | h3
  · omega
  · have := h.le j (s4_of h1 h2 h3); omega
/-- What the second list comes to. -/
theorem best_pair {L2 : List Nat} {L M n k : Nat} (hL2 : ∀ x, x ∈ L2 ↔ x < place ∧ d.getD x 0 = d.getD place 0 ∧ d.getD (x + 1) 0 = d.getD (place + 1) 0) (hM : 2 ≤ M) (hML : M ≤ L) (hf : ∀ j, 1 ≤ j → j ≤ depth place dict → fAt d place L j ≤ M)
    (h : BestOn (S2 L2 place dict) (fAt d place M) n k) : (n, k) = if (bestTo (fAt d place L) (depth place dict)).1 < 2 then (0, 0) else bestTo (fAt d place L) (depth place dict) := by
  have hin : ∀ j, S2 L2 place dict j → 1 ≤ j ∧ j ≤ depth place dict := by
    rintro _ ⟨h1, x, hx, rfl⟩
    have := ((hL2 x).1 hx).1
    unfold depth; omega
  have he : ∀ j, 1 ≤ j → j ≤ depth place dict → fAt d place M j = fAt d place L j := fun j h1 h2 => by
    have := hf j h1 h2
    unfold fAt at this ⊢
    rw [eqLen_limit hML]; omega
  have hof : ∀ j, 1 ≤ j → j ≤ depth place dict → 2 ≤ fAt d place L j → S2 L2 place dict j := fun j h1 h2 h3 => by
    unfold depth at h2
    obtain ⟨p1, p2⟩ := pair_of_len h3
    exact ⟨by omega, place - j, (hL2 _).2 ⟨by omega, p1, p2⟩, by omega⟩
  have h2 : BestOn (S2 L2 place dict) (fAt d place L) n k := by
    refine ⟨fun j hj => ?_, fun j hj hlt => ?_, h.at_.imp id fun ⟨a, b, c⟩ => ⟨a, ?_, c⟩⟩
    · obtain ⟨a, b⟩ := hin j hj; rw [← he j a b]; exact h.le j hj
    · obtain ⟨a, b⟩ := hin j hj; rw [← he j a b]; exact h.lt j hj hlt
    · obtain ⟨a', b'⟩ := hin k a; rw [← he k a' b']; exact b
  have hB := bestTo_is (fAt d place L) (depth place dict)
  by_cases hn : 2 ≤ n
  · obtain ⟨e1, e2⟩ := (h2.all (m := 2) hin hof hn (by decide)).unique hB
    rw [if_neg (by omega), e1, e2]
  · have hn0 : n = 0 ∧ k = 0 := by
      rcases h2.at_ with e | ⟨a, b, c⟩
      · exact e
      · exfalso
        obtain ⟨_, x, hx, e⟩ := a
        obtain ⟨x1, x2, x3⟩ := (hL2 x).1 hx
        have : 2 ≤ fAt d place L k := by
          have hk : place - k = x := by omega
          unfold fAt; rw [hk]
          have hl := isLen_eqLen d L place x
          rcases Nat.lt_or_ge (eqLen d place x L) 2 with g | g
          · exfalso
            rcases hl.stop with e1 | e1
            · omega
            · have : eqLen d place x L = 0 ∨ eqLen d place x L = 1 := by omega
              rcases this with e2 | e2 <;> rw [e2] at e1
              · exact e1 x2.symm
              · exact e1 x3.symm
          · exact g
        omega
    have : (bestTo (fAt d place L) (depth place dict)).1 < 2 := by
      rcases hB.at_ with ⟨e, _⟩ | ⟨a, b, c, e⟩
      · omega
      · rcases Nat.lt_or_ge (bestTo (fAt d place L) (depth place dict)).1 2 with g | g
        · exact g
        · have := h2.le _ (hof _ a b (by omega)); omega
    rw [if_pos this, hn0.1, hn0.2]
/-- The pairs' list: those before the place, the nearest first. -/
theorem pair_list {x y : UInt8} {h : Nat} (hx : d.getD place 0 = x) (hy : d.getD (place + 1) 0 = y) (hp : place + 1 < d.length) (hh : h ≤ (places d x y (d.length - 1)).length)
    (hlo : ∀ q (_ : q < (places d x y (d.length - 1)).length), q < h → (places d x y (d.length - 1))[q] < place) (hhi : ∀ q (_ : q < (places d x y (d.length - 1)).length), h ≤ q → place ≤ (places d x y (d.length - 1))[q]) :
    (∀ z, z ∈ ((places d x y (d.length - 1)).take h).reverse ↔ z < place ∧ d.getD z 0 = d.getD place 0 ∧ d.getD (z + 1) 0 = d.getD (place + 1) 0) ∧ ((places d x y (d.length - 1)).take h).reverse.Pairwise (· > ·) := by
  constructor
  · intro z
    rw [List.mem_reverse, hx, hy]
    constructor
    · intro hz
      obtain ⟨q, hq, e⟩ := List.mem_iff_getElem.1 hz
      rw [List.length_take] at hq
      rw [List.getElem_take] at e
      have h1 := hlo q (by omega) (by omega)
      have h2 := mem_places.1 (List.mem_of_mem_take hz)
      exact ⟨by omega, h2.2⟩
    · rintro ⟨h1, h2, h3⟩
      have hm : z ∈ places d x y (d.length - 1) := mem_places.2 ⟨by omega, h2, h3⟩
      obtain ⟨q, hq, e⟩ := List.mem_iff_getElem.1 hm
      rcases Nat.lt_or_ge q h with g | g
      · refine List.mem_iff_getElem.2 ⟨q, by rw [List.length_take]; omega, ?_⟩
        rw [List.getElem_take]; exact e
      · have := hhi q hq g; omega
  · rw [List.pairwise_reverse]
    exact ((places_rise d x y (d.length - 1)).sublist (List.take_sublist _ _)).imp fun h => h
end
end Go.Proofs.Ytkckjjchfccdjaa

/- The finder's map of the places of each pair. -/
namespace Go.Proofs.Ytkckjjchfccdjaa
set_option maxRecDepth 100000
open Go.RowKit Go.Maps Go.ChangeShapes

/-- What a pair's entry reads as. -/
def placesD (L : List Nat) : DataW Unit := if L = [] then .nil else .slice (lits .i32 (L.map Int.ofNat)) []
def PairsAt (w : World) (b : Nat) (d : List UInt8) (n : Nat) : Prop :=
  ∃ D : DataW Unit, w.ownsGroups Try.prog 122 (b + 1) 21 .i32 b n D ∧ ∀ x y : UInt8, D.atKey (lit2 x y) .nil = placesD (places d x y n)
theorem lits_inj {q : IntKind} {a b : List Int} (h : lits (H := Unit) q a = lits q b) : a = b := by
  unfold lits at h
  refine (List.map_inj_right (fun x y e => ?_)).1 h
  simpa using e
theorem placesD_owned {w : World} {base : Nat} {e : TypeId} {v : Value} {zs : List Int} {L : List Nat} (h : w.ownsInts base e .i32 v zs) (he : placesD L = rowDatum .i32 v zs) : zs = L.map Int.ofNat := by
  unfold placesD at he
  split at he
  · rename_i hL
    subst hL
    by_cases hz : zs = []
    · rw [hz]; rfl
    · rw [h.datum_pos hz] at he; cases he
  · rcases h.datum (H := Unit) with ⟨h1, _⟩ | h1
    · rw [h1] at he; cases he
    · rw [h1] at he
      injection he with he
      exact (lits_inj he).symm
theorem placesD_of_owned {w : World} {base : Nat} {e : TypeId} {v : Value} {L : List Nat} (h : w.ownsInts base e .i32 v (L.map Int.ofNat)) (hL : L ≠ []) : rowDatum .i32 v (L.map Int.ofNat) = placesD L := by
  unfold placesD
  rw [if_neg hL, h.datum_pos (by simpa using hL)]
theorem PairsAt.made (w : World) (d : List UInt8) : PairsAt (w.alloc (.map #[] 0)) w.heap.size d 0 :=
  ⟨_, World.ownsGroups_made w Try.prog _ _ _, fun x y => by simp only [placesD, places, List.range_zero, List.filter_nil, if_true]; rfl⟩
theorem groups_isMap {w : World} {P : Program} {k : TypeId} {base : Nat} {e : TypeId} {q : IntKind} {b n : Nat} {D : DataW Unit} (h : w.ownsGroups P k base e q b n D) : ∃ l, D = .map l := by
  obtain ⟨_, _, _, _, _, rfl, _⟩ := h
  exact ⟨_, rfl⟩
theorem groups_keep {w w' : World} {P : Program} {k : TypeId} {base : Nat} {e : TypeId} {q : IntKind} {b n : Nat} {D : DataW Unit} {row : Option Nat} (h : w.ownsGroups P k base e q b n D) (hg : w.grownBy w' row) (hrow : ∀ j, row = some j → j < b) : w'.ownsGroups P k base e q b n D := by
  obtain ⟨es, clock, hb, F, hs, rfl, hbb, hlen, hap⟩ := h
  have hk : ∀ {v : Value} {zs : List Int}, w.ownsInts base e q v zs → w'.ownsInts base e q v zs := fun {v zs} ho => ho.kept hg (by
    cases hv : v.ownBlock with
    | none => exact .inl rfl
    | some g =>
      refine .inr fun e1 => ?_
      have h1 := (ho.1.lt g hv).1
      have h2 := hrow g e1.symm
      omega)
  have hs1 : ∀ x ∈ es.toList, ∀ z, rowElem (H := Unit) w base e q x.val = some z → rowElem w' base e q x.val = some z := by
    intro x _ z hz
    obtain ⟨ys, ho, rfl⟩ := rowElem_inv hz
    exact rowElem_mk (hk ho)
  obtain ⟨F2, hmap2, _⟩ := F.stay hs1
  refine ⟨es, clock, (hg.block b (Array.getElem?_eq_some_iff.1 hb).1 (fun e1 => by have := hrow b e1.symm; omega)).trans hb, F2, hs, by rw [hmap2], hbb, fun x hx ys ho => ?_, hap⟩
  obtain ⟨y, hy⟩ := F.reads x hx
  obtain ⟨z, hz, _⟩ := WideElems.rd_val hy
  obtain ⟨ys', ho', _⟩ := rowElem_inv hz
  rw [ho.unique (hk ho')]
  exact hlen x hx ys' ho'
theorem PairsAt.below {w w' : World} {b n : Nat} {d : List UInt8} (h : PairsAt w b d n) (hb : Below w.heap.size w w') : PairsAt w' b d n := by
  obtain ⟨D, h1, h2⟩ := h
  exact ⟨D, groups_keep (row := none) h1 ⟨hb.os, hb.tape, hb.output, hb.size, fun k hk _ => hb.block k hk⟩ (fun j e => by cases e), h2⟩
theorem PairsAt.set {w : World} {b n : Nat} {d : List UInt8} (h : PairsAt w b d n) (a : Addr) (v : Value) (ha : a.block < b) : PairsAt (w.setCell a v) b d n := by
  obtain ⟨D, h1, h2⟩ := h
  refine ⟨D, groups_keep (row := some a.block) h1 ⟨rfl, rfl, rfl, by simp [World.setCell], fun k _ hk => heap_setCell_other _ _ _ _ (fun e => hk (by rw [e]))⟩ (fun j e => by injection e with e; omega), h2⟩
theorem places_len (d : List UInt8) (x y : UInt8) (n : Nat) : (places d x y n).length ≤ n := by
  unfold places
  have := List.length_filter_le (fun i => d.getD i 0 == x && d.getD (i + 1) 0 == y) (List.range n)
  simpa using this
theorem PairsAt.lt {w : World} {b n : Nat} {d : List UInt8} (h : PairsAt w b d n) : b < w.heap.size := by
  obtain ⟨D, ⟨es, clock, hb, _⟩, _⟩ := h
  exact (Array.getElem?_eq_some_iff.1 hb).1
/-- What the entry's own slice holds, and what a store behind one more number leaves. -/
theorem PairsAt.entry {w : World} {b n : Nat} {d : List UInt8} (h : PairsAt w b d n) (hn : n ≤ 100000) :
    ∃ (v : Value) (st : Nat) (w1 : World), (Instr.mapEntry 77 (.map (some b)) (pairV (d.getD n 0) (d.getD (n + 1) 0))).run Try.prog w = .ok (.tuple #[v, goInt st]) w1 ∧ w.grownBy w1 (some b) ∧
      OwnV 21 (b + 1) w1 v ((places d (d.getD n 0) (d.getD (n + 1) 0) n).map fun i => .int .i32 (i : Nat)) ∧
      ∀ (w2 : World) (v' : Value), w1.grownBy w2 v.ownBlock → OwnV 21 (b + 1) w2 v' ((places d (d.getD n 0) (d.getD (n + 1) 0) n).map (fun i => .int .i32 (i : Nat)) ++ [.int .i32 (n : Nat)]) → (v'.ownBlock = v.ownBlock ∨ ∃ g, v'.ownBlock = some g ∧ w.heap.size ≤ g) →
        ∃ w3, (Instr.entryStore 77 (.map (some b)) (goInt st) v').run Try.prog w2 = .ok () w3 ∧ PairsAt w3 b d (n + 1) ∧ w2.grownBy w3 (some b) := by
  obtain ⟨D, h1, h2⟩ := h
  obtain ⟨x, hx⟩ : ∃ x, d.getD n 0 = x := ⟨_, rfl⟩
  obtain ⟨y, hy⟩ : ∃ y, d.getD (n + 1) 0 = y := ⟨_, rfl⟩
  rw [hx, hy]
  have hz : ∀ u : World, (zeroValue 78).run Try.prog u = .ok (.slice none 0 0) u := fun u => by
    first | rfl | simp [zeroValue]
  obtain ⟨v, zs, st, w1, hr, hg, hat, ho, hzl, hst⟩ := groups_entry h1 arr2.law Try.underlying77 hz (by unfold maxLen; omega) (lit2_spec x y)
  have hzs := placesD_owned ho ((h2 x y).symm.trans hat)
  subst hzs
  have hlen : (places d x y n).length ≤ n := by simpa using hzl
  have hP : places d x y (n + 1) = places d x y n ++ [n] := by rw [places_succ, if_pos ⟨hx, hy⟩]
  refine ⟨v, st, w1, hr, hg, ?_, fun w2 v' hg2 ho2 hloc => ?_⟩
  · have := ho.1
    unfold OwnV
    simpa [List.map_map, Function.comp_def] using this
  · have hown : w2.ownsInts (b + 1) 21 .i32 v' ((places d x y (n + 1)).map Int.ofNat) := by
      refine ⟨?_, fun z hz => ?_⟩
      · unfold OwnV at ho2
        rw [hP]
        simpa [List.map_map, Function.comp_def] using ho2
      · obtain ⟨i, hi, rfl⟩ := List.mem_map.1 hz
        have := (mem_places.1 hi).1
        exact wf32 (by simp) (by simp; omega)
    obtain ⟨w3, hs, hG, hg3⟩ := hst w2 v' _ hg2 hown (by rw [hP]; simp; exact hlen) hloc
    refine ⟨w3, hs, ⟨_, hG, fun x' y' => ?_⟩, hg3⟩
    have hk := keyed2.key (lit2_spec x y)
    by_cases hxy : x' = x ∧ y' = y
    · obtain ⟨rfl, rfl⟩ := hxy
      rw [atKey_put_same (groups_isMap h1) hk]
      exact placesD_of_owned hown (by rw [hP]; simp)
    · have hne : lit2 x' y' ≠ lit2 x y := fun e => hxy (lit2_inj e)
      rw [atKey_put_other hne, h2 x' y', places_succ, if_neg (by rw [hx, hy]; exact fun e => hxy ⟨e.1.symm, e.2.symm⟩), List.append_nil]
theorem PairsAt.lookKept {w w' : World} {b n : Nat} {d : List UInt8} (h : PairsAt w b d n) (hb : w'.heap[b]? = w.heap[b]?) {x y : UInt8} {v : Value} (hr : (Instr.lookup 77 (.map (some b)) (pairV x y) false).run Try.prog w = .ok v w) : (Instr.lookup 77 (.map (some b)) (pairV x y) false).run Try.prog w' = .ok v w' := by
  obtain ⟨D, ⟨es, clock, hb0, F, _⟩, _⟩ := h
  have hz : ∀ u : World, (zeroValue 78).run Try.prog u = .ok (.slice none 0 0) u := fun u => by
    first | rfl | simp [zeroValue]
  exact look_local arr2.law Try.underlying77 hz F hb0 (hb.trans hb0) (lit2_spec x y) hr
/-- What a look-up gives. -/
theorem PairsAt.look {w : World} {b n : Nat} {d : List UInt8} (h : PairsAt w b d n) (hn : n ≤ 100000) (x y : UInt8) :
    ∃ (A : Option Addr) (c : Nat), (Instr.lookup 77 (.map (some b)) (pairV x y) false).run Try.prog w = .ok (.slice A (places d x y n).length c) w ∧ Read32 w A (places d x y n) ∧ (places d x y n).length ≤ c ∧ c ≤ 9223372036854775807 := by
  obtain ⟨D, h1, h2⟩ := h
  have hz : (zeroValue 78).run Try.prog w = .ok (.slice none 0 0) w := by
    first | rfl | simp [zeroValue]
  obtain ⟨v, zs, hr, hat, ho, _, _⟩ := h1.at keyed2 Try.underlying77 hz (by unfold maxLen; omega) (lit2_spec x y)
  have hzs := placesD_owned ho ((h2 x y).symm.trans hat)
  subst hzs
  have hv : OwnV 21 (b + 1) w v ((places d x y n).map fun i => .int .i32 (i : Nat)) := by
    have := ho.1
    unfold OwnV
    simpa [List.map_map, Function.comp_def] using this
  obtain ⟨A, c, rfl, hc, hm, hcell⟩ := hv.read
  rw [List.length_map] at hr hc
  refine ⟨A, c, hr, fun i hi => ?_, hc, hm⟩
  obtain ⟨g, hA, hg⟩ := hcell i (by rw [List.length_map]; exact hi)
  exact ⟨g, hA, by rw [hg]; simp⟩
end Go.Proofs.Ytkckjjchfccdjaa
