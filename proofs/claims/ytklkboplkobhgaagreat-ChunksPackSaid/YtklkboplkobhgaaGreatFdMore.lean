/- Several texts in one: FdBestM, FdEntry, FdPairMem, FdPairs, FdBefore, FdClone, FdSame4, FdNew, FdBest. -/
import Derived.Test.YtklkboplkobhgaaGreatFdSeqL
import Derived.Test.YtklkboplkobhgaaGreatFdAll
import Derived.Maps.OwnRows
import Derived.WideKeyEntry
import Derived.Test.YtklkboplkobhgaaGreatRows
import Derived.Test.YtklkboplkobhgaaGreatBase
import Derived.Test.YtklkboplkobhgaaGreatVals
import Derived.Deep.RegionHeld3
import Derived.Deep.DeepCutAuto
/- The finder's Best: from the places with the same four bytes, and with the same two, to what the document says. -/
namespace Go.Proofs.YtklkboplkobhgaaGreat
set_option maxRecDepth 100000
open Go.RowKit

section
variable {d : List UInt8} {place : Nat} {dict : Int}
/-- The best distance, with the first that has the length. -/
def fAt (d : List UInt8) (place L : Nat) (j : Nat) : Nat := eqLen d place (place - j) L
def depth (place : Nat) (dict : Int) : Nat := (min (place : Int) dict).toNat
def S4 (d : List UInt8) (place : Nat) (dict : Int) (j : Nat) : Prop := (j : Int) ≤ dict ∧ Dists place (chain d (four d place) place) j
theorem s4_in {j : Nat} (h : S4 d place dict j) : 1 ≤ j ∧ j ≤ depth place dict := by
  obtain ⟨h1, x, hx, rfl⟩ := h
  have := (mem_chain.1 hx).1
  unfold depth
  omega
theorem s4_of {L j : Nat} (h1 : 1 ≤ j) (h2 : j ≤ depth place dict) (h : 4 ≤ fAt d place L j) : S4 d place dict j := by
  unfold depth at h2
  refine ⟨by omega, place - j, mem_chain.2 ⟨by omega, four_of_len h⟩, by omega⟩
/-- The list of the pairs' places below this one. -/
def S2 (L2 : List Nat) (place : Nat) (dict : Int) (j : Nat) : Prop := (j : Int) ≤ dict ∧ Dists place L2 j
theorem best_four {L n k : Nat} (h : BestOn (S4 d place dict) (fAt d place L) n k) (h4 : 4 ≤ n) : (n, k) = bestTo (fAt d place L) (depth place dict) := by
  have h1 := h.all (m := 4) (fun j hj => s4_in hj) (fun j a b c => s4_of a b c) h4 (by decide)
  obtain ⟨e1, e2⟩ := h1.unique (bestTo_is _ _)
  rw [e1, e2]
theorem no_four {L n k : Nat} (h : BestOn (S4 d place dict) (fAt d place L) n k) (h4 : n < 4) : ∀ j, 1 ≤ j → j ≤ depth place dict → fAt d place L j ≤ 3 := by
  intro j h1 h2
  rcases Nat.lt_or_ge (fAt d place L j) 4 with h3 | h3
  · omega
  · have := h.le j (s4_of h1 h2 h3); omega
/-- What the second list comes to. -/
theorem best_pair {L2 : List Nat} {L M n k : Nat} (hL2 : ∀ x, x ∈ L2 ↔ x < place ∧ d.getD x 0 = d.getD place 0 ∧ d.getD (x + 1) 0 = d.getD (place + 1) 0) (hM : 2 ≤ M) (hML : M ≤ L) (hf : ∀ j, 1 ≤ j → j ≤ depth place dict → fAt d place L j ≤ M)
    (h : BestOn (S2 L2 place dict) (fAt d place M) n k) : (n, k) = if (bestTo (fAt d place L) (depth place dict)).1 < 2 then (0, 0) else bestTo (fAt d place L) (depth place dict) := by
  have hin : ∀ j, S2 L2 place dict j → 1 ≤ j ∧ j ≤ depth place dict := by
    rintro _ ⟨h1, x, hx, rfl⟩
    have := ((hL2 x).1 hx).1
    unfold depth; omega
  have he : ∀ j, 1 ≤ j → j ≤ depth place dict → fAt d place M j = fAt d place L j := fun j h1 h2 => by
    have := hf j h1 h2
    unfold fAt at this ⊢
    rw [eqLen_limit hML]; omega
  have hof : ∀ j, 1 ≤ j → j ≤ depth place dict → 2 ≤ fAt d place L j → S2 L2 place dict j := fun j h1 h2 h3 => by
    unfold depth at h2
    obtain ⟨p1, p2⟩ := pair_of_len h3
    exact ⟨by omega, place - j, (hL2 _).2 ⟨by omega, p1, p2⟩, by omega⟩
  have h2 : BestOn (S2 L2 place dict) (fAt d place L) n k := by
    refine ⟨fun j hj => ?_, fun j hj hlt => ?_, h.at_.imp id fun ⟨a, b, c⟩ => ⟨a, ?_, c⟩⟩
    · obtain ⟨a, b⟩ := hin j hj; rw [← he j a b]; exact h.le j hj
    · obtain ⟨a, b⟩ := hin j hj; rw [← he j a b]; exact h.lt j hj hlt
    · obtain ⟨a', b'⟩ := hin k a; rw [← he k a' b']; exact b
  have hB := bestTo_is (fAt d place L) (depth place dict)
  by_cases hn : 2 ≤ n
  · obtain ⟨e1, e2⟩ := (h2.all (m := 2) hin hof hn (by decide)).unique hB
    rw [if_neg (by omega), e1, e2]
  · have hn0 : n = 0 ∧ k = 0 := by
      rcases h2.at_ with e | ⟨a, b, c⟩
      · exact e
      · exfalso
        obtain ⟨_, x, hx, e⟩ := a
        obtain ⟨x1, x2, x3⟩ := (hL2 x).1 hx
        have : 2 ≤ fAt d place L k := by
          have hk : place - k = x := by omega
          unfold fAt; rw [hk]
          have hl := isLen_eqLen d L place x
          rcases Nat.lt_or_ge (eqLen d place x L) 2 with g | g
          · exfalso
            rcases hl.stop with e1 | e1
            · omega
            · have : eqLen d place x L = 0 ∨ eqLen d place x L = 1 := by omega
              rcases this with e2 | e2 <;> rw [e2] at e1
              · exact e1 x2.symm
              · exact e1 x3.symm
          · exact g
        omega
    have : (bestTo (fAt d place L) (depth place dict)).1 < 2 := by
      rcases hB.at_ with ⟨e, _⟩ | ⟨a, b, c, e⟩
      · omega
      · rcases Nat.lt_or_ge (bestTo (fAt d place L) (depth place dict)).1 2 with g | g
        · exact g
        · have := h2.le _ (hof _ a b (by omega)); omega
    rw [if_pos this, hn0.1, hn0.2]
/-- The pairs' list: those before the place, the nearest first. -/
theorem pair_list {x y : UInt8} {h : Nat} (hx : d.getD place 0 = x) (hy : d.getD (place + 1) 0 = y) (hp : place + 1 < d.length) (hh : h ≤ (places d x y (d.length - 1)).length)
    (hlo : ∀ q (_ : q < (places d x y (d.length - 1)).length), q < h → (places d x y (d.length - 1))[q] < place) (hhi : ∀ q (_ : q < (places d x y (d.length - 1)).length), h ≤ q → place ≤ (places d x y (d.length - 1))[q]) :
    (∀ z, z ∈ ((places d x y (d.length - 1)).take h).reverse ↔ z < place ∧ d.getD z 0 = d.getD place 0 ∧ d.getD (z + 1) 0 = d.getD (place + 1) 0) ∧ ((places d x y (d.length - 1)).take h).reverse.Pairwise (· > ·) := by
  constructor
  · intro z
    rw [List.mem_reverse, hx, hy]
    constructor
    · intro hz
      obtain ⟨q, hq, e⟩ := List.mem_iff_getElem.1 hz
      rw [List.length_take] at hq
      rw [List.getElem_take] at e
      have h1 := hlo q (by omega) (by omega)
      have h2 := mem_places.1 (List.mem_of_mem_take hz)
      exact ⟨by omega, h2.2⟩
    · rintro ⟨h1, h2, h3⟩
      have hm : z ∈ places d x y (d.length - 1) := mem_places.2 ⟨by omega, h2, h3⟩
      obtain ⟨q, hq, e⟩ := List.mem_iff_getElem.1 hm
      rcases Nat.lt_or_ge q h with g | g
      · refine List.mem_iff_getElem.2 ⟨q, by rw [List.length_take]; omega, ?_⟩
        rw [List.getElem_take]; exact e
      · have := hhi q hq g; omega
  · rw [List.pairwise_reverse]
    exact ((places_rise d x y (d.length - 1)).sublist (List.take_sublist _ _)).imp fun h => h
end
end Go.Proofs.YtklkboplkobhgaaGreat

/- m[k] = append(m[k], x) by an entry of the map: the entry is looked up once, and stored into behind the append. -/
namespace Go.Proofs.YtklkboplkobhgaaGreat
set_option maxRecDepth 100000
open Go.ChangeMaps Go.MapKept Go.ChangeShapes Go.RowKit
open Go.WideElems (Fit rd rg pl rd_val elemAt)
open Go.Maps (Keyed)
open Go.WideMaps (KeyLaw)

section
variable {H : Type} {P : Program} {w w' : World} {t k E e : TypeId} {R : Value → Option (DataW H × List MemPlace)} {b : Nat} {es es' : Array MapEntry} {clock clock' : Nat}

theorem key_place {l : List MapEntry} (hn : (l.map (·.key)).Nodup) {i j : Nat} {x y : MapEntry} (hx : l[i]? = some x) (hy : l[j]? = some y) (e : x.key = y.key) : i = j := by
  have hi := (List.getElem?_eq_some_iff.1 hx).1
  refine (List.getElem?_inj (l := l.map (·.key)) (by simpa using hi) hn).1 ?_
  simp [hx, hy, e]
theorem key_entry {l : List MapEntry} (hn : (l.map (·.key)).Nodup) {x y : MapEntry} (hx : x ∈ l) (hy : y ∈ l) (e : x.key = y.key) : x = y := by
  obtain ⟨i, hi⟩ := List.getElem?_of_mem hx
  obtain ⟨j, hj⟩ := List.getElem?_of_mem hy
  have := key_place hn hi hj e
  subst this
  rw [hi] at hj
  exact Option.some.inj hj
theorem setBlock_map_inj (hb : w.heap[b]? = some (.map es clock)) {a a' : Array MapEntry} {c c' : Nat} (h : (Result.ok () (setBlock w b (.map a c)) : Result Unit) = .ok () (setBlock w b (.map a' c'))) : a = a' ∧ c = c' := by
  have h1 : setBlock w b (.map a c) = setBlock w b (.map a' c') := by injection h
  have h2 := heap_setBlock_same hb (.map a c)
  rw [h1, heap_setBlock_same hb] at h2
  simp at h2
  exact ⟨h2.1.symm, h2.2.symm⟩
/-- What a store does to a map's block hangs on that block alone. -/
theorem update_local (K : KeyLaw P k) (ht : P.underlying t = some (.map k e)) (F : Fit P k R es clock) (hb : w.heap[b]? = some (.map es clock)) (hb' : w'.heap[b]? = some (.map es clock)) {key val : Value} {kl : Lit} (hkey : keyOf P k key = some kl)
    (h : (Instr.mapUpdate t (.map (some b)) key val).run P w = .ok () (setBlock w b (.map es' clock'))) : (Instr.mapUpdate t (.map (some b)) key val).run P w' = .ok () (setBlock w' b (.map es' clock')) := by
  obtain ⟨_, _, s3⟩ := F.stamped
  rcases K.find w hkey es.toList F.keys with ⟨h1, h2⟩ | ⟨j, e0, h1, h2, h3⟩
  · have e1 : (Instr.mapUpdate t (.map (some b)) key val).run P w = .ok () (setBlock w b (.map (es.push ⟨key, val, clock⟩) (clock + 1))) := by
      simp [Instr.mapUpdate, run_underlying ht, MapKept.run_getObj_map hb, K.check w false hkey, h1, MapKept.run_setObj_map _ hb, Result.andThen, setBlock]
    obtain ⟨rfl, rfl⟩ := setBlock_map_inj hb (h.symm.trans e1)
    rcases K.find w' hkey es.toList F.keys with ⟨g1, g2⟩ | ⟨j', e0', g1, g2, g3⟩
    · simp [Instr.mapUpdate, run_underlying ht, MapKept.run_getObj_map hb', K.check w' false hkey, g1, MapKept.run_setObj_map _ hb', Result.andThen, setBlock]
    · exact absurd g3 (h2 _ (List.mem_of_getElem? g2))
  · have hj : es[j]? = some e0 := by simpa using h2
    have e1 : (Instr.mapUpdate t (.map (some b)) key val).run P w = .ok () (setBlock w b (.map (es.modify j (fun e' => { e' with key := key, val := val })) clock)) := by
      simp [Instr.mapUpdate, run_underlying ht, MapKept.run_getObj_map hb, K.check w false hkey, h1, hj, h3, K.stays w hkey, MapKept.run_setObj_map _ hb, Result.andThen, setBlock]
    obtain ⟨rfl, rfl⟩ := setBlock_map_inj hb (h.symm.trans e1)
    rcases K.find w' hkey es.toList F.keys with ⟨g1, g2⟩ | ⟨j', e0', g1, g2, g3⟩
    · exact absurd h3 (g2 _ (List.mem_of_getElem? h2))
    · have := key_place s3 h2 g2 (h3.trans g3.symm)
      subst this
      rw [h2] at g2
      obtain rfl := Option.some.inj g2
      simp [Instr.mapUpdate, run_underlying ht, MapKept.run_getObj_map hb', K.check w' false hkey, g1, hj, h3, K.stays w' hkey, MapKept.run_setObj_map _ hb', Result.andThen, setBlock]
theorem look_local (K : KeyLaw P k) (ht : P.underlying t = some (.map k e)) {z : Value} (hz : ∀ u : World, (zeroValue e).run P u = .ok z u) (F : Fit P k R es clock) (hb : w.heap[b]? = some (.map es clock)) (hb' : w'.heap[b]? = some (.map es clock)) {key v : Value} {kl : Lit} (hkey : keyOf P k key = some kl)
    (h : (Instr.lookup t (.map (some b)) key false).run P w = .ok v w) : (Instr.lookup t (.map (some b)) key false).run P w' = .ok v w' := by
  obtain ⟨_, _, s3⟩ := F.stamped
  rcases K.find w hkey es.toList F.keys with ⟨h1, h2⟩ | ⟨j, e0, h1, h2, h3⟩
  · have e1 : (Instr.lookup t (.map (some b)) key false).run P w = .ok z w := by
      simp [Instr.lookup, run_underlying ht, MapKept.run_getObj_map hb, K.check w _ hkey, h1, hz, Result.andThen]
    rw [e1] at h
    obtain rfl : z = v := by injection h
    rcases K.find w' hkey es.toList F.keys with ⟨g1, g2⟩ | ⟨j', e0', g1, g2, g3⟩
    · simp [Instr.lookup, run_underlying ht, MapKept.run_getObj_map hb', K.check w' _ hkey, g1, hz, Result.andThen]
    · exact absurd g3 (h2 _ (List.mem_of_getElem? g2))
  · have e1 : (Instr.lookup t (.map (some b)) key false).run P w = .ok e0.val w := by
      simp [Instr.lookup, run_underlying ht, MapKept.run_getObj_map hb, K.check w _ hkey, h1, Result.andThen]
    rw [e1] at h
    obtain rfl : e0.val = v := by injection h
    rcases K.find w' hkey es.toList F.keys with ⟨g1, g2⟩ | ⟨j', e0', g1, g2, g3⟩
    · exact absurd h3 (g2 _ (List.mem_of_getElem? h2))
    · have := key_place s3 h2 g2 (h3.trans g3.symm)
      subst this
      rw [h2] at g2
      obtain rfl := Option.some.inj g2
      simp [Instr.lookup, run_underlying ht, MapKept.run_getObj_map hb', K.check w' _ hkey, g1, Result.andThen]
theorem setBlock_twice (w : World) (b : Nat) (o o' : Obj) : setBlock (setBlock w b o) b o' = setBlock w b o' := by
  simp [setBlock]
variable {base n : Nat} {q : IntKind} {D : DataW H}
theorem groups_entry (h : w.ownsGroups (H := H) P k base e q b n D) (K : KeyLaw P k) (ht : P.underlying t = some (.map k E)) (hz : ∀ u : World, (zeroValue E).run P u = .ok (.slice none 0 0) u) (hn : n < maxLen) {key : Value} {kl : Lit} (hkey : keyOf P k key = some kl) :
    ∃ (v : Value) (zs : List Int) (st : Nat) (w1 : World), (Instr.mapEntry t (.map (some b)) key).run P w = .ok (.tuple #[v, goInt st]) w1 ∧ w.grownBy w1 (some b) ∧ D.atKey kl .nil = rowDatum q v zs ∧ w1.ownsInts base e q v zs ∧ zs.length ≤ n ∧
      ∀ (w2 : World) (v' : Value) (zs' : List Int), w1.grownBy w2 v.ownBlock → w2.ownsInts base e q v' zs' → zs'.length ≤ n + 1 → (v'.ownBlock = v.ownBlock ∨ ∃ g, v'.ownBlock = some g ∧ w.heap.size ≤ g) →
        ∃ w3, (Instr.entryStore t (.map (some b)) (goInt st) v').run P w2 = .ok () w3 ∧ w3.ownsGroups (H := H) P k base e q b (n + 1) (D.put kl (rowDatum q v' zs')) ∧ w2.grownBy w3 (some b) := by
  obtain ⟨es, clock, hb, F, hs, rfl, hbb, hlen, hap⟩ := h
  have hblt : b < w.heap.size := (Array.getElem?_eq_some_iff.1 hb).1
  obtain ⟨_, _, s3⟩ := F.stamped
  obtain ⟨v0, st, es1, clock1, hrun, hv0, hstore⟩ := WideElems.entry_then_store K ht hz hb F hkey
  have hg1 : w.grownBy (setBlock w b (.map es1 clock1)) (some b) := ⟨rfl, rfl, rfl, by simp [setBlock], fun i _ hi => heap_setBlock_other hb _ (fun e1 => hi (by rw [e1]))⟩
  -- what lies at the key, and what it owns
  have hboth : ∃ zs, (DataW.map ((es.toList.map (rg P k (rowElem (H := H) w base e q))).foldr DataW.insert [])).atKey kl .nil = rowDatum q v0 zs ∧ w.ownsInts base e q v0 zs ∧ zs.length ≤ n ∧
      (∀ x ∈ es.toList, x.key ≠ key → x.val.ownBlock = none ∨ x.val.ownBlock ≠ v0.ownBlock) ∧ v0.ownBlock ≠ some b := by
    rcases Maps.fit_look false (Keyed.of_law K) ht (hz w) hb F hkey with ⟨_, hno, hat⟩ | ⟨e0, y, hm0, h3, _, hR, hat, _⟩
    · rcases hv0 with ⟨e0, he0, hk0, _⟩ | ⟨_, rfl⟩
      · exact absurd hk0 (hno e0 he0)
      · exact ⟨[], hat _, World.ownsInts_nil _ _ _ _, Nat.zero_le _, fun x _ _ => by cases x.val.ownBlock <;> simp [Value.ownBlock], by simp [Value.ownBlock]⟩
    · rcases hv0 with ⟨e1, he1, hk1, rfl⟩ | ⟨hno, _⟩
      · obtain rfl := key_entry s3 hm0 he1 (h3.trans hk1.symm)
        obtain ⟨zs, ho, rfl⟩ := rowElem_inv hR
        exact ⟨zs, hat _, ho, hlen e0 hm0 zs ho, fun x hx hne => hap x hx e0 hm0 (by rw [h3]; exact hne), fun e1 => by have := (ho.1.lt b e1).1; omega⟩
      · exact absurd h3 (hno e0 hm0)
  obtain ⟨zs, hat, hoi, hzl, hapart, hvb⟩ := hboth
  have hback := groups_back (Keyed.of_law K) ht hb F hs hn hbb hlen hap hkey hapart hvb
  have hne0 : v0.ownBlock = none ∨ v0.ownBlock ≠ some b := .inr hvb
  refine ⟨v0, zs, st, _, hrun, hg1, hat, hoi.kept hg1 hne0, hzl, fun w2 v' zs' hg hown hl hloc => ?_⟩
  have hb1 : (setBlock w b (.map es1 clock1)).heap[b]? = some (.map es1 clock1) := heap_setBlock_same hb _
  have hsz1 : (setBlock w b (.map es1 clock1)).heap.size = w.heap.size := by simp [setBlock]
  have hb2 : w2.heap[b]? = some (.map es1 clock1) := (hg.block b (by rw [hsz1]; exact hblt) (fun e1 => hvb e1.symm)).trans hb1
  obtain ⟨es', clock', hst, hup⟩ := hstore w2 v' hb2
  -- the world behind the append, had the entry not been laid
  have hbR : (setBlock w2 b (.map es clock)).heap[b]? = some (.map es clock) := heap_setBlock_same hb2 _
  have hgR : w.grownBy (setBlock w2 b (.map es clock)) v0.ownBlock := by
    refine ⟨hg.os, hg.tape, hg.output, ?_, fun i hi hne => ?_⟩
    · have := hg.size; rw [hsz1] at this; simpa [setBlock] using this
    · by_cases hib : i = b
      · subst hib; rw [hbR, hb]
      · rw [heap_setBlock_other hb2 _ hib, hg.block i (by rw [hsz1]; exact hi) hne, heap_setBlock_other hb _ hib]
  have hgR2 : w2.grownBy (setBlock w2 b (.map es clock)) (some b) := ⟨rfl, rfl, rfl, by simp [setBlock], fun i _ hi => heap_setBlock_other hb2 _ (fun e1 => hi (by rw [e1]))⟩
  have hvb' : v'.ownBlock = none ∨ v'.ownBlock ≠ some b := by
    cases hv' : v'.ownBlock with
    | none => exact .inl rfl
    | some g =>
      refine .inr fun e1 => ?_
      have := (hown.1.lt g hv').1
      cases e1
      omega
  obtain ⟨wu, hu1, hu2, _⟩ := hback _ v' zs' hgR (hown.kept hgR2 hvb') hl hloc
  have hu3 := update_local K ht F hb hbR hkey hup
  rw [hu1, setBlock_twice] at hu3
  have hu4 : wu = setBlock w2 b (.map es' clock') := by injection hu3
  subst hu4
  exact ⟨_, hst, hu2, ⟨rfl, rfl, rfl, by simp [setBlock], fun i _ hi => heap_setBlock_other hb2 _ (fun e1 => hi (by rw [e1]))⟩⟩
end
end Go.Proofs.YtklkboplkobhgaaGreat

/- The finder's map of the places of each pair. -/
namespace Go.Proofs.YtklkboplkobhgaaGreat
set_option maxRecDepth 100000
open Go.RowKit Go.Maps Go.ChangeShapes

/-- What a pair's entry reads as. -/
def placesD (L : List Nat) : DataW Unit := if L = [] then .nil else .slice (lits .i32 (L.map Int.ofNat)) []
def PairsAt (w : World) (b : Nat) (d : List UInt8) (n : Nat) : Prop :=
  ∃ D : DataW Unit, w.ownsGroups Tryz.prog 98 (b + 1) 21 .i32 b n D ∧ ∀ x y : UInt8, D.atKey (lit2 x y) .nil = placesD (places d x y n)
theorem lits_inj {q : IntKind} {a b : List Int} (h : lits (H := Unit) q a = lits q b) : a = b := by
  unfold lits at h
  refine (List.map_inj_right (fun x y e => ?_)).1 h
  simpa using e
theorem placesD_owned {w : World} {base : Nat} {e : TypeId} {v : Value} {zs : List Int} {L : List Nat} (h : w.ownsInts base e .i32 v zs) (he : placesD L = rowDatum .i32 v zs) : zs = L.map Int.ofNat := by
  unfold placesD at he
  split at he
  · rename_i hL
    subst hL
    by_cases hz : zs = []
    · rw [hz]; rfl
    · rw [h.datum_pos hz] at he; cases he
  · rcases h.datum (H := Unit) with ⟨h1, _⟩ | h1
    · rw [h1] at he; cases he
    · rw [h1] at he
      injection he with he
      exact (lits_inj he).symm
theorem placesD_of_owned {w : World} {base : Nat} {e : TypeId} {v : Value} {L : List Nat} (h : w.ownsInts base e .i32 v (L.map Int.ofNat)) (hL : L ≠ []) : rowDatum .i32 v (L.map Int.ofNat) = placesD L := by
  unfold placesD
  rw [if_neg hL, h.datum_pos (by simpa using hL)]
theorem PairsAt.made (w : World) (d : List UInt8) : PairsAt (w.alloc (.map #[] 0)) w.heap.size d 0 :=
  ⟨_, World.ownsGroups_made w Tryz.prog _ _ _, fun x y => by simp only [placesD, places, List.range_zero, List.filter_nil, if_true]; rfl⟩
theorem groups_isMap {w : World} {P : Program} {k : TypeId} {base : Nat} {e : TypeId} {q : IntKind} {b n : Nat} {D : DataW Unit} (h : w.ownsGroups P k base e q b n D) : ∃ l, D = .map l := by
  obtain ⟨_, _, _, _, _, rfl, _⟩ := h
  exact ⟨_, rfl⟩
theorem groups_keep {w w' : World} {P : Program} {k : TypeId} {base : Nat} {e : TypeId} {q : IntKind} {b n : Nat} {D : DataW Unit} {row : Option Nat} (h : w.ownsGroups P k base e q b n D) (hg : w.grownBy w' row) (hrow : ∀ j, row = some j → j < b) : w'.ownsGroups P k base e q b n D := by
  obtain ⟨es, clock, hb, F, hs, rfl, hbb, hlen, hap⟩ := h
  have hk : ∀ {v : Value} {zs : List Int}, w.ownsInts base e q v zs → w'.ownsInts base e q v zs := fun {v zs} ho => ho.kept hg (by
    cases hv : v.ownBlock with
    | none => exact .inl rfl
    | some g =>
      refine .inr fun e1 => ?_
      have h1 := (ho.1.lt g hv).1
      have h2 := hrow g e1.symm
      omega)
  have hs1 : ∀ x ∈ es.toList, ∀ z, rowElem (H := Unit) w base e q x.val = some z → rowElem w' base e q x.val = some z := by
    intro x _ z hz
    obtain ⟨ys, ho, rfl⟩ := rowElem_inv hz
    exact rowElem_mk (hk ho)
  obtain ⟨F2, hmap2, _⟩ := F.stay hs1
  refine ⟨es, clock, (hg.block b (Array.getElem?_eq_some_iff.1 hb).1 (fun e1 => by have := hrow b e1.symm; omega)).trans hb, F2, hs, by rw [hmap2], hbb, fun x hx ys ho => ?_, hap⟩
  obtain ⟨y, hy⟩ := F.reads x hx
  obtain ⟨z, hz, _⟩ := WideElems.rd_val hy
  obtain ⟨ys', ho', _⟩ := rowElem_inv hz
  rw [ho.unique (hk ho')]
  exact hlen x hx ys' ho'
theorem PairsAt.below {w w' : World} {b n : Nat} {d : List UInt8} (h : PairsAt w b d n) (hb : Below w.heap.size w w') : PairsAt w' b d n := by
  obtain ⟨D, h1, h2⟩ := h
  exact ⟨D, groups_keep (row := none) h1 ⟨hb.os, hb.tape, hb.output, hb.size, fun k hk _ => hb.block k hk⟩ (fun j e => by cases e), h2⟩
theorem PairsAt.set {w : World} {b n : Nat} {d : List UInt8} (h : PairsAt w b d n) (a : Addr) (v : Value) (ha : a.block < b) : PairsAt (w.setCell a v) b d n := by
  obtain ⟨D, h1, h2⟩ := h
  refine ⟨D, groups_keep (row := some a.block) h1 ⟨rfl, rfl, rfl, by simp [World.setCell], fun k _ hk => heap_setCell_other _ _ _ _ (fun e => hk (by rw [e]))⟩ (fun j e => by injection e with e; omega), h2⟩
theorem places_len (d : List UInt8) (x y : UInt8) (n : Nat) : (places d x y n).length ≤ n := by
  unfold places
  have := List.length_filter_le (fun i => d.getD i 0 == x && d.getD (i + 1) 0 == y) (List.range n)
  simpa using this
theorem PairsAt.lt {w : World} {b n : Nat} {d : List UInt8} (h : PairsAt w b d n) : b < w.heap.size := by
  obtain ⟨D, ⟨es, clock, hb, _⟩, _⟩ := h
  exact (Array.getElem?_eq_some_iff.1 hb).1
/-- What the entry's own slice holds, and what a store behind one more number leaves. -/
theorem PairsAt.entry {w : World} {b n : Nat} {d : List UInt8} (h : PairsAt w b d n) (hn : n ≤ 100000) :
    ∃ (v : Value) (st : Nat) (w1 : World), (Instr.mapEntry 54 (.map (some b)) (pairV (d.getD n 0) (d.getD (n + 1) 0))).run Tryz.prog w = .ok (.tuple #[v, goInt st]) w1 ∧ w.grownBy w1 (some b) ∧
      OwnV 21 (b + 1) w1 v ((places d (d.getD n 0) (d.getD (n + 1) 0) n).map fun i => .int .i32 (i : Nat)) ∧
      ∀ (w2 : World) (v' : Value), w1.grownBy w2 v.ownBlock → OwnV 21 (b + 1) w2 v' ((places d (d.getD n 0) (d.getD (n + 1) 0) n).map (fun i => .int .i32 (i : Nat)) ++ [.int .i32 (n : Nat)]) → (v'.ownBlock = v.ownBlock ∨ ∃ g, v'.ownBlock = some g ∧ w.heap.size ≤ g) →
        ∃ w3, (Instr.entryStore 54 (.map (some b)) (goInt st) v').run Tryz.prog w2 = .ok () w3 ∧ PairsAt w3 b d (n + 1) ∧ w2.grownBy w3 (some b) := by
  obtain ⟨D, h1, h2⟩ := h
  obtain ⟨x, hx⟩ : ∃ x, d.getD n 0 = x := ⟨_, rfl⟩
  obtain ⟨y, hy⟩ : ∃ y, d.getD (n + 1) 0 = y := ⟨_, rfl⟩
  rw [hx, hy]
  have hz : ∀ u : World, (zeroValue 55).run Tryz.prog u = .ok (.slice none 0 0) u := fun u => by
    first | rfl | simp [zeroValue]
  obtain ⟨v, zs, st, w1, hr, hg, hat, ho, hzl, hst⟩ := groups_entry h1 arr2.law Tryz.underlying54 hz (by unfold maxLen; omega) (lit2_spec x y)
  have hzs := placesD_owned ho ((h2 x y).symm.trans hat)
  subst hzs
  have hlen : (places d x y n).length ≤ n := by simpa using hzl
  have hP : places d x y (n + 1) = places d x y n ++ [n] := by rw [places_succ, if_pos ⟨hx, hy⟩]
  refine ⟨v, st, w1, hr, hg, ?_, fun w2 v' hg2 ho2 hloc => ?_⟩
  · have := ho.1
    unfold OwnV
    simpa [List.map_map, Function.comp_def] using this
  · have hown : w2.ownsInts (b + 1) 21 .i32 v' ((places d x y (n + 1)).map Int.ofNat) := by
      refine ⟨?_, fun z hz => ?_⟩
      · unfold OwnV at ho2
        rw [hP]
        simpa [List.map_map, Function.comp_def] using ho2
      · obtain ⟨i, hi, rfl⟩ := List.mem_map.1 hz
        have := (mem_places.1 hi).1
        exact wf32 (by simp) (by simp; omega)
    obtain ⟨w3, hs, hG, hg3⟩ := hst w2 v' _ hg2 hown (by rw [hP]; simp; exact hlen) hloc
    refine ⟨w3, hs, ⟨_, hG, fun x' y' => ?_⟩, hg3⟩
    have hk := keyed2.key (lit2_spec x y)
    by_cases hxy : x' = x ∧ y' = y
    · obtain ⟨rfl, rfl⟩ := hxy
      rw [atKey_put_same (groups_isMap h1) hk]
      exact placesD_of_owned hown (by rw [hP]; simp)
    · have hne : lit2 x' y' ≠ lit2 x y := fun e => hxy (lit2_inj e)
      rw [atKey_put_other hne, h2 x' y', places_succ, if_neg (by rw [hx, hy]; exact fun e => hxy ⟨e.1.symm, e.2.symm⟩), List.append_nil]
theorem PairsAt.lookKept {w w' : World} {b n : Nat} {d : List UInt8} (h : PairsAt w b d n) (hb : w'.heap[b]? = w.heap[b]?) {x y : UInt8} {v : Value} (hr : (Instr.lookup 54 (.map (some b)) (pairV x y) false).run Tryz.prog w = .ok v w) : (Instr.lookup 54 (.map (some b)) (pairV x y) false).run Tryz.prog w' = .ok v w' := by
  obtain ⟨D, ⟨es, clock, hb0, F, _⟩, _⟩ := h
  have hz : ∀ u : World, (zeroValue 55).run Tryz.prog u = .ok (.slice none 0 0) u := fun u => by
    first | rfl | simp [zeroValue]
  exact look_local arr2.law Tryz.underlying54 hz F hb0 (hb.trans hb0) (lit2_spec x y) hr
/-- What a look-up gives. -/
theorem PairsAt.look {w : World} {b n : Nat} {d : List UInt8} (h : PairsAt w b d n) (hn : n ≤ 100000) (x y : UInt8) :
    ∃ (A : Option Addr) (c : Nat), (Instr.lookup 54 (.map (some b)) (pairV x y) false).run Tryz.prog w = .ok (.slice A (places d x y n).length c) w ∧ Read32 w A (places d x y n) ∧ (places d x y n).length ≤ c ∧ c ≤ 9223372036854775807 := by
  obtain ⟨D, h1, h2⟩ := h
  have hz : (zeroValue 55).run Tryz.prog w = .ok (.slice none 0 0) w := by
    first | rfl | simp [zeroValue]
  obtain ⟨v, zs, hr, hat, ho, _, _⟩ := h1.at keyed2 Tryz.underlying54 hz (by unfold maxLen; omega) (lit2_spec x y)
  have hzs := placesD_owned ho ((h2 x y).symm.trans hat)
  subst hzs
  have hv : OwnV 21 (b + 1) w v ((places d x y n).map fun i => .int .i32 (i : Nat)) := by
    have := ho.1
    unfold OwnV
    simpa [List.map_map, Function.comp_def] using this
  obtain ⟨A, c, rfl, hc, hm, hcell⟩ := hv.read
  rw [List.length_map] at hr hc
  refine ⟨A, c, hr, fun i hi => ?_, hc, hm⟩
  obtain ⟨g, hA, hg⟩ := hcell i (by rw [List.length_map]; exact hi)
  exact ⟨g, hA, by rw [hg]; simp⟩
end Go.Proofs.YtklkboplkobhgaaGreat

/- The finder's pairPlaces. -/
namespace Go.Proofs.YtklkboplkobhgaaGreat
set_option maxRecDepth 100000
open Go.RowKit Go.Maps

theorem elem32 : Elem 55 21 (.int .i32 0) 4 := ⟨Tryz.underlying55, by kernel_rfl, rfl⟩
set_option maxRecDepth 100000 in
set_option maxHeartbeats 2000000 in
theorem pairPlaces_any (A : Option Addr) (l : List UInt8) (c n : Nat) (w : World) (hB : Bytes w A l) (hc : l.length ≤ c) (hl : l.length ≤ 100000) (hn : n = l.length - 1) :
    Calls Tryz.prog 20 #[.slice A l.length c] w fun e w' => e = .returned (.map (some w.heap.size)) ∧ PairsAt w' w.heap.size l n ∧ Below w.heap.size w w' := by
  have hci : (l.length : Int) ≤ (c : Int) := by omega
  have hli : (l.length : Int) ≤ 100000 := by omega
  have hni : (n : Int) ≤ 100000 := by omega
  have HBY := Lib.hid hB
  have HN := Lib.hid hn
  have hmm : ∀ w : World, (Instr.makeMap 54 none).run Tryz.prog w = .ok (.map (some w.heap.size)) (w.alloc (.map #[] 0)) := fun w => run_makeMap _ w
  clear hB hn hl hc
  go_enter Tryz.func20, Tryz.ntmps20
  go_wp2_with fail
  have HMP : Hid (PairsAt (w.alloc (.map #[] 0)) w.heap.size l 0) := Lib.hid (PairsAt.made w l)
  have HB1 : Hid (Below w.heap.size w (w.alloc (.map #[] 0))) := Lib.hid ((Below.refl _ _).alloc (Nat.le_refl _) _)
  clear hmm
  go_loopw [10] (fun i wr => ∃ k : Nat, k ≤ n ∧ i = .int .i64 (k : Nat) ∧ Hid (PairsAt wr w.heap.size l k) ∧ Hid (Below w.heap.size w wr)) (fun i _ => n - (intOf i).toNat)
  case atStart => exact ⟨0, by omega, rfl, HMP, HB1⟩
  case round =>
    obtain ⟨k, hk, rfl, HL, HB⟩ := hrel
    by_cases hkl : k < n
    · have hki : (k : Int) < (l.length : Int) - 1 := by have := HN.out; omega
      obtain ⟨b, off, rfl, hbl, hat⟩ := (HBY.out.below HB.out).addr (by omega)
      have hx0 := hat k (by omega)
      have hx1 := hat (k + 1) (by omega)
      have e0 := getD_of (d := l) (i := k) (by omega)
      have e1 := getD_of (d := l) (i := k + 1) (by omega)
      generalize l[k]'(by omega) = z0 at *
      generalize l[k + 1]'(by omega) = z1 at *
      obtain ⟨y1, hy1⟩ : ∃ y : Nat, k + 1 = y := ⟨_, rfl⟩
      rw [hy1] at hx1
      have k1 : (k : Int) + 1 = (y1 : Int) := by omega
      have l1 : (y1 : Int) < (l.length : Int) := by omega
      have l0 : (k : Int) < (l.length : Int) := by omega
      have HC := Lib.hid (fun (wx : World) (h : wx.heap[b]? = wr.heap[b]?) => (show wx.cell? ⟨b, off + k, none⟩ = some (.int .u8 (z0.toNat : Nat)) ∧ wx.cell? ⟨b, off + y1, none⟩ = some (.int .u8 (z1.toNat : Nat)) from by
        refine ⟨?_, ?_⟩
        · rw [← hx0]; unfold World.cell?; rw [h]
        · rw [← hx1]; unfold World.cell?; rw [h]))
      have v1 : IntKind.i64.wrap (y1 : Int) = (y1 : Int) := IntWalk.i64_in _ (by omega)
      have HE := Lib.hid (And.intro e0 e1)
      clear hat e0 e1 hy1 hx0 hx1
      go_wp2_with fail
      refine wp_region_held_drew (S := fun w2 => w2.heap[b]? = wr.drew.heap[b]?) (by kernel_rfl) rfl (fun hS => ?_)
      refine wpAnyH_take (i := 0) (oi := { dst := some 13, op := Op.move (Operand.tmp 0), type := 22, pos := "finder.go:114", after := #[], guard := none }) (v := ?vsf1) rfl (by kernel_rfl) (by kernel_rfl) (by kernel_rfl) (fun _ _ _ h => h) (Or.inl ⟨by rfl, ?ysf1⟩) hS ?_
      case ysf1 =>
        intro w hSw
        obtain ⟨i0, i1⟩ := HC.out w hSw
        go_simp; all_goals (with_reducible rfl)
      simp only [Act.put, List.setIfInBounds_toArray, List.set_cons_zero, List.set_cons_succ]
      refine wpAnyH_take (i := 1) (oi := { dst := some 14, op := Op.move (Operand.tmp 4), type := 3, pos := "finder.go:114", after := #[], guard := none }) (v := ?vsf2) rfl (by kernel_rfl) (by kernel_rfl) (by kernel_rfl) (fun _ _ _ h => h) (Or.inl ⟨by rfl, ?ysf2⟩) hS ?_
      case ysf2 =>
        intro w hSw
        obtain ⟨i0, i1⟩ := HC.out w hSw
        go_simp; all_goals (with_reducible rfl)
      simp only [Act.put, List.setIfInBounds_toArray, List.set_cons_zero, List.set_cons_succ]
      refine wpAnyH_take (i := 2) (oi := { dst := some 15, op := Op.indexAddr 22 (Operand.tmp 13) (Operand.tmp 14), type := 0, pos := "finder.go:114", after := #[{ on := 0, ground := Ground.data }, { on := 1, ground := Ground.data }], guard := none }) (v := ?vsf3) rfl (by kernel_rfl) (by kernel_rfl) (by kernel_rfl) (fun _ _ _ h => h) (Or.inl ⟨by rfl, ?ysf3⟩) hS ?_
      case ysf3 =>
        intro w hSw
        obtain ⟨i0, i1⟩ := HC.out w hSw
        go_simp; all_goals (with_reducible rfl)
      simp only [Act.put, List.setIfInBounds_toArray, List.set_cons_zero, List.set_cons_succ]
      refine wpAnyH_take (i := 3) (oi := { dst := some 16, op := Op.load 5 (Operand.tmp 15), type := 5, pos := "finder.go:114", after := #[{ on := 2, ground := Ground.data }], guard := none }) (v := ?vsf4) rfl (by kernel_rfl) (by kernel_rfl) (by kernel_rfl) (fun _ _ _ h => h) (Or.inl ⟨by rfl, ?ysf4⟩) hS ?_
      case ysf4 =>
        intro w hSw
        obtain ⟨i0, i1⟩ := HC.out w hSw
        go_simp; all_goals (with_reducible rfl)
      simp only [Act.put, List.setIfInBounds_toArray, List.set_cons_zero, List.set_cons_succ]
      refine wpAnyH_take (i := 4) (oi := { dst := some 17, op := Op.move (Operand.tmp 0), type := 22, pos := "finder.go:114", after := #[], guard := none }) (v := ?vsf5) rfl (by kernel_rfl) (by kernel_rfl) (by kernel_rfl) (fun _ _ _ h => h) (Or.inl ⟨by rfl, ?ysf5⟩) hS ?_
      case ysf5 =>
        intro w hSw
        obtain ⟨i0, i1⟩ := HC.out w hSw
        go_simp; all_goals (with_reducible rfl)
      simp only [Act.put, List.setIfInBounds_toArray, List.set_cons_zero, List.set_cons_succ]
      refine wpAnyH_take (i := 5) (oi := { dst := some 18, op := Op.move (Operand.tmp 4), type := 3, pos := "finder.go:114", after := #[], guard := none }) (v := ?vsf6) rfl (by kernel_rfl) (by kernel_rfl) (by kernel_rfl) (fun _ _ _ h => h) (Or.inl ⟨by rfl, ?ysf6⟩) hS ?_
      case ysf6 =>
        intro w hSw
        obtain ⟨i0, i1⟩ := HC.out w hSw
        go_simp; all_goals (with_reducible rfl)
      simp only [Act.put, List.setIfInBounds_toArray, List.set_cons_zero, List.set_cons_succ]
      refine wpAnyH_take (i := 6) (oi := { dst := some 19, op := Op.binOp BinOp.add 3 (Operand.tmp 18) (Operand.const (Value.int IntKind.i64 1)) 3, type := 3, pos := "finder.go:114", after := #[{ on := 5, ground := Ground.data }], guard := none }) (v := ?vsf7) rfl (by kernel_rfl) (by kernel_rfl) (by kernel_rfl) (fun _ _ _ h => h) (Or.inl ⟨by rfl, ?ysf7⟩) hS ?_
      case ysf7 =>
        intro w hSw
        obtain ⟨i0, i1⟩ := HC.out w hSw
        go_simp; all_goals (with_reducible rfl)
      simp only [Act.put, List.setIfInBounds_toArray, List.set_cons_zero, List.set_cons_succ]
      refine wpAnyH_take (i := 7) (oi := { dst := some 20, op := Op.indexAddr 22 (Operand.tmp 17) (Operand.tmp 19), type := 0, pos := "finder.go:114", after := #[{ on := 4, ground := Ground.data }, { on := 6, ground := Ground.data }], guard := none }) (v := ?vsf8) rfl (by kernel_rfl) (by kernel_rfl) (by kernel_rfl) (fun _ _ _ h => h) (Or.inl ⟨by rfl, ?ysf8⟩) hS ?_
      case ysf8 =>
        intro w hSw
        obtain ⟨i0, i1⟩ := HC.out w hSw
        go_simp; all_goals (with_reducible rfl)
      simp only [Act.put, List.setIfInBounds_toArray, List.set_cons_zero, List.set_cons_succ]
      refine wpAnyH_take (i := 8) (oi := { dst := some 21, op := Op.load 5 (Operand.tmp 20), type := 5, pos := "finder.go:114", after := #[{ on := 7, ground := Ground.data }], guard := none }) (v := ?vsf9) rfl (by kernel_rfl) (by kernel_rfl) (by kernel_rfl) (fun _ _ _ h => h) (Or.inl ⟨by rfl, ?ysf9⟩) hS ?_
      case ysf9 =>
        intro w hSw
        obtain ⟨i0, i1⟩ := HC.out w hSw
        go_simp; all_goals (with_reducible rfl)
      simp only [Act.put, List.setIfInBounds_toArray, List.set_cons_zero, List.set_cons_succ]
      refine wpAnyH_take (i := 9) (oi := { dst := some 22, op := Op.build 98 #[(0, Operand.tmp 16), (1, Operand.tmp 21)], type := 98, pos := "finder.go:114", after := #[{ on := 3, ground := Ground.data }, { on := 8, ground := Ground.data }], guard := none }) (v := ?vsf10) rfl (by kernel_rfl) (by kernel_rfl) (by kernel_rfl) (fun _ _ _ h => h) (Or.inl ⟨by rfl, ?ysf10⟩) hS ?_
      case ysf10 =>
        intro w hSw
        obtain ⟨i0, i1⟩ := HC.out w hSw
        go_simp; all_goals (with_reducible rfl)
      simp only [Act.put, List.setIfInBounds_toArray, List.set_cons_zero, List.set_cons_succ]
      refine wpAnyH_ready (rs := [10]) (by kernel_rfl) (by simp) ?_
      refine (AllReadyH.cons (o := { dst := some 5, op := Op.alloc 98, type := 0, pos := "finder.go:114", after := #[], guard := none }) rfl (fun K hK => ?_) AllReadyH.nil)
      go_simp
      refine hK.out _ _ (Below.heap_alloc _ _ _ hbl) (fun _ => ?_)
      clear hK K
      refine wpAnyH_ready (rs := [11]) (by kernel_rfl) (by simp) ?_
      refine (AllReadyH.cons (o := { dst := none, op := Op.store 98 (Operand.tmp 5) (Operand.tmp 22), type := 0, pos := "finder.go:114", after := #[{ on := 10, ground := Ground.data }, { on := 9, ground := Ground.data }, { on := 0, ground := Ground.phase }, { on := 1, ground := Ground.phase }, { on := 2, ground := Ground.phase }, { on := 3, ground := Ground.phase }, { on := 4, ground := Ground.phase }, { on := 5, ground := Ground.phase }, { on := 6, ground := Ground.phase }, { on := 7, ground := Ground.phase }, { on := 8, ground := Ground.phase }, { on := 9, ground := Ground.phase }, { on := 10, ground := Ground.phase }], guard := none }) rfl (fun K hK => ?_) AllReadyH.nil)
      go_simp
      refine hK.out _ _ (Below.heap_alloc _ _ _ hbl) (fun _ => ?_)
      clear hK K
      refine wpAnyH_done (by kernel_rfl) ?_ _
      obtain ⟨W2, hW2⟩ : ∃ W2, (wr.alloc (.cells #[.int .u8 (z0.toNat : Nat), .int .u8 (z1.toNat : Nat)] 98)).drew = W2 := ⟨_, rfl⟩
      rw [hW2]
      have hb2 : Below wr.heap.size wr W2 := by
        rw [← hW2]
        have h := (Below.refl wr.heap.size wr).alloc (Nat.le_refl _) (.cells #[.int .u8 (z0.toNat : Nat), .int .u8 (z1.toNat : Nat)] 98)
        exact ⟨h.os, h.tape, h.output, h.size, h.block⟩
      have hbx : W2.heap[wr.heap.size]? = some (.cells #[.int .u8 (z0.toNat : Nat), .int .u8 (z1.toNat : Nat)] 98 (0, 0)) := by
        rw [← hW2]; exact heap_alloc_last _ _
      have x0 : W2.cell? ⟨wr.heap.size, 0, none⟩ = some (.int .u8 (z0.toNat : Nat)) := by rw [cell_of_row W2 _ _ _ _ _ hbx]; rfl
      have x1 : W2.cell? ⟨wr.heap.size, 1, none⟩ = some (.int .u8 (z1.toNat : Nat)) := by rw [cell_of_row W2 _ _ _ _ _ hbx]; rfl
      obtain ⟨W3, hW3⟩ : ∃ W3, W2.alloc (.cells #[.int .i32 (k : Nat)] 21) = W3 := ⟨_, rfl⟩
      have hb3 : Below wr.heap.size wr W3 := by rw [← hW3]; exact hb2.alloc hb2.size _
      have hsz3 : W3.heap.size = W2.heap.size + 1 := by rw [← hW3]; simp
      have hcn : W3.heap[W2.heap.size]? = some (.cells #[.int .i32 (k : Nat)] 21 (0, 0)) := by rw [← hW3]; exact heap_alloc_last _ _
      have hbw := HB.out.size
      have hl3 := HL.out.below hb3
      have hlt := hl3.lt
      obtain ⟨v, st, w1, hme, hg1, hown1, hst⟩ := hl3.entry (by omega)
      rw [HE.out.1, HE.out.2, ← hW3] at hme
      simp only [pairV, goInt] at hme
      have hlen := places_len l (l.getD k 0) (l.getD (k + 1) 0) k
      rw [HE.out.1, HE.out.2] at hown1 hst hlen
      have hlen2 : ((places l z0 z1 k).map (fun i => Value.int .i32 (i : Nat))).length ≤ 100000 := by rw [List.length_map]; omega
      obtain ⟨PL, hPL⟩ : ∃ PL, (places l z0 z1 k).map (fun i => Value.int .i32 (i : Nat)) = PL := ⟨_, rfl⟩
      rw [hPL] at hown1 hst hlen2
      have hbs := hb2.size
      have hcn1 : w1.heap[W2.heap.size]? = some (.cells #[.int .i32 (k : Nat)] 21 (0, 0)) := (hg1.block _ (by omega) (by
        have hwl : w.heap.size < wr.heap.size := HL.out.lt
        intro e; injection e with e; omega)).trans hcn
      have hlit : ∀ i (h : i < [Value.int .i32 (k : Nat)].length), w1.cell? ⟨W2.heap.size, i, none⟩ = some [Value.int .i32 (k : Nat)][i] := by
        intro i hi
        obtain rfl : i = 0 := by simpa using hi
        rw [cell_of_row _ _ _ _ _ _ hcn1]; rfl
      have HST := Lib.hid hst
      have HBW : Hid (Below w.heap.size w w1) := Lib.hid (below_grown (HB.out.trans (hb3.mono hbw)) hg1 (Nat.le_trans hbw hb3.size) (fun g e => by injection e with e; omega))
      have HOWN := Lib.hid hown1
      have HLIT := Lib.hid hlit
      have HSZ1 : Hid (w.heap.size + 1 ≤ w1.heap.size) := Lib.hid (Nat.le_trans (by omega) hg1.size)
      have HLEN := Lib.hid hlen2
      have HG1S := Lib.hid hg1.size
      clear hW2 hb2 hS hbx hW3 hb3 hsz3 hcn hl3 hg1 hown1 hst hlen hlen2 hPL hbs hcn1 hlit hlt hbw
      have hw32 : IntKind.i32.wrap (k : Int) = (k : Int) := by
        have e1 : IntKind.i32.min = -2147483648 := rfl
        have e2 : IntKind.i32.max = 2147483647 := rfl
        first | exact IntWalk.i32_in _ (by omega) | (unfold IntKind.wrap; simp; omega)
      go_wp2_with (at_builtin; refine wpList_append_vals elem32 rfl (.tmp 25) (.tmp 28) rfl (w.heap.size + 1) w1 v PL rfl HOWN.out W2.heap.size 1 1 [.int .i32 (k : Nat)] rfl rfl HLIT.out (by intro u hu; simp at hu; subst hu; rfl) (by have := HLEN.out; omega) (by have := HLEN.out; omega) HSZ1.out ?_; intro v' w2 hown2 hg2 hloc; obtain ⟨w3, hes, hp3, hg3⟩ := HST.out w2 v' hg2 hown2 (hloc.imp id fun e => ⟨_, e, HG1S.out⟩); simp only [goInt] at hes; have HP3 := Lib.hid hp3; have HB3 : Hid (Below w.heap.size w w3) := Lib.hid (below_grown (below_grown HBW.out hg2 HBW.out.size (fun g e => by have := (HOWN.out.lt g e).1; omega)) hg3 (Nat.le_trans HBW.out.size hg2.size) (fun g e => by injection e with e; omega)); clear hown2 hg2 hloc hp3 hg3)
      exact ⟨⟨k + 1, by omega, by rw [← k1]; rfl, HP3, HB3⟩, by simp [intOf]; omega⟩
    · obtain rfl : k = n := by omega
      have hki : ¬ (k : Int) < (l.length : Int) - 1 := by have := HN.out; omega
      have hki2 : decide ((k : Int) < (l.length : Int) - 1) = false := decide_eq_false hki
      clear HMP HB1
      go_wp2_with fail
      go_ret
      exact ⟨rfl, HL.out, HB.out⟩
end Go.Proofs.YtklkboplkobhgaaGreat

/- The finder's beforePair. -/
namespace Go.Proofs.YtklkboplkobhgaaGreat
set_option maxRecDepth 100000
open Go.RowKit Go.Maps

def PairDone (L : List Nat) (place : Nat) (w : World) (e : Ending) (w' : World) : Prop := ∃ (b1 b2 : Nat) (A : Option Addr) (c h : Nat), e = .returned (.func (.func 87) #[] #[PF b1, PF b2]) ∧ BoxAt b1 w' (.int .i64 (h : Nat)) ∧ BoxAt b2 w' (.slice A L.length c) ∧
  Read32 w' A L ∧ L.length ≤ c ∧ h ≤ L.length ∧ (∀ q (_ : q < L.length), q < h → L[q] < place) ∧ (∀ q (_ : q < L.length), h ≤ q → place ≤ L[q]) ∧ Below w.heap.size w w'
set_option maxRecDepth 100000 in
set_option maxHeartbeats 2000000 in
theorem beforePair_any (Fp : Nat) (A : Option Addr) (c : Nat) (d : List UInt8) (dict nice : Int) (mp : Nat) (v4 : Value) (place : Nat) (w : World) (hF : FinderAt w Fp A c d dict nice mp v4) (hP : PairsAt w mp d (d.length - 1)) (hp : place + 1 < d.length) :
    Calls Tryz.prog 73 #[PF Fp, .int .i64 (place : Nat)] w (PairDone (places d (d.getD place 0) (d.getD (place + 1) 0) (d.length - 1)) place w) := by
  have hli : (d.length : Int) ≤ 100000 := by have := hF.small; omega
  have hln : d.length ≤ 100000 := hF.small
  have hci : (d.length : Int) ≤ (c : Int) := by have := hF.cap; omega
  obtain ⟨y1, hy1⟩ : ∃ y : Nat, place + 1 = y := ⟨_, rfl⟩
  have k1 : (place : Int) + 1 = (y1 : Int) := by omega
  have l1 : (y1 : Int) < (d.length : Int) := by omega
  have l0 : (place : Int) < (d.length : Int) := by omega
  obtain ⟨b, off, rfl, hbl, _⟩ := hF.bytes.addr (by omega)
  have HC0 : Hid (∀ w2 : World, Below w.heap.size w w2 → w2.cell? ⟨b, off + place, none⟩ = some (.int .u8 ((d.getD place 0).toNat : Nat)) ∧ w2.cell? ⟨b, off + y1, none⟩ = some (.int .u8 ((d.getD y1 0).toNat : Nat))) := Lib.hid (fun w2 hb => by
    obtain ⟨b', off', e, _, hat⟩ := (hF.below hb).bytes.addr (by omega)
    injection e with e
    injection e with e1 e2
    subst e1; subst e2
    have h0 := hat place (by omega)
    have h1 := hat y1 (by omega)
    rw [← getD_of (d := d) (i := place) (by omega)] at h0
    rw [← getD_of (d := d) (i := y1) (by omega)] at h1
    exact ⟨h0, h1⟩)
  rw [hy1]
  generalize d.getD place 0 = z0 at *
  generalize d.getD y1 0 = z1 at *
  obtain ⟨PA, cp, hlook, hread, hcp, hcm⟩ := hP.look (by omega) z0 z1
  have hrise := places_rise d z0 z1 (d.length - 1)
  have hlen := places_len d z0 z1 (d.length - 1)
  have HLK : Hid (∀ w2 : World, Below w.heap.size w w2 → (Instr.lookup 54 (.map (some mp)) (pairV z0 z1) false).run Tryz.prog w2 = .ok (.slice PA (places d z0 z1 (d.length - 1)).length cp) w2) := Lib.hid (fun w2 hb => by
    have hb' : w2.heap[mp]? = w.heap[mp]? := hb.block _ hP.lt
    exact hP.lookKept hb' hlook)
  obtain ⟨L, hL⟩ : ∃ L, places d z0 z1 (d.length - 1) = L := ⟨_, rfl⟩
  rw [hL] at hlook hread hcp hrise hlen HLK ⊢
  have HC := Lib.hid (fun (w2 : World) (hb : Below w.heap.size w w2) => (show w2.cell? ⟨Fp, 0, none⟩ = some (.slice (some ⟨b, off, none⟩) d.length c) ∧ w2.cell? ⟨Fp, 3, none⟩ = some (.map (some mp)) ∧ w2.cell? ⟨b, off + place, none⟩ = some (.int .u8 (z0.toNat : Nat)) ∧ w2.cell? ⟨b, off + y1, none⟩ = some (.int .u8 (z1.toNat : Nat)) ∧ (Instr.lookup 54 (.map (some mp)) (.agg #[.int .u8 (z0.toNat : Nat), .int .u8 (z1.toNat : Nat)]) false).run Tryz.prog w2 = .ok (.slice PA L.length cp) w2 from by
    obtain ⟨f0, _, _, f3, _⟩ := (hF.below hb).cells
    exact ⟨f0, f3, (HC0.out w2 hb).1, (HC0.out w2 hb).2, HLK.out w2 hb⟩))
  have HREAD := Lib.hid hread
  have HRISE := Lib.hid hrise
  have HCP := Lib.hid hcp
  have hw32 : IntKind.i32.wrap (place : Int) = (place : Int) := by
    have e1 : IntKind.i32.min = -2147483648 := rfl
    have e2 : IntKind.i32.max = 2147483647 := rfl
    first | exact IntWalk.i32_in _ (by omega) | (unfold IntKind.wrap; simp; omega)
  have hll : L.length ≤ 100000 := by omega
  have HLL := Lib.hid hll
  have v1 : IntKind.i64.wrap (y1 : Int) = (y1 : Int) := IntWalk.i64_in _ (by omega)
  clear hF hP hlook hread hrise hlen hcp hL hbl hy1 HC0 HLK hll hp hcm
  go_enter Tryz.func73, Tryz.ntmps73
  go_wp2_with fail
  refine wp_region_held_drew (S := fun w2 => Below w.heap.size w w2) (by kernel_rfl) ⟨rfl, rfl, rfl, Nat.le_refl _, fun _ _ => rfl⟩ (fun hS => ?_)
  refine wpAnyH_take (i := 0) (oi := { dst := some 8, op := Op.move (Operand.tmp 0), type := 35, pos := "finder.go:102", after := #[], guard := none }) (v := ?vbp1) rfl (by kernel_rfl) (by kernel_rfl) (by kernel_rfl) (fun _ _ _ h => h) (Or.inl ⟨by rfl, ?ybp1⟩) hS ?_
  case ybp1 =>
    intro w hSw
    obtain ⟨c0, c3, i0, i1, hlk⟩ := HC.out w hSw
    go_simp; all_goals (with_reducible rfl)
  simp only [Act.put, List.setIfInBounds_toArray, List.set_cons_zero, List.set_cons_succ]
  refine wpAnyH_take (i := 1) (oi := { dst := some 9, op := Op.nilCheck (Operand.tmp 8), type := 0, pos := "finder.go:102", after := #[{ on := 0, ground := Ground.data }], guard := none }) (v := ?vbp2) rfl (by kernel_rfl) (by kernel_rfl) (by kernel_rfl) (fun _ _ _ h => h) (Or.inl ⟨by rfl, ?ybp2⟩) hS ?_
  case ybp2 =>
    intro w hSw
    obtain ⟨c0, c3, i0, i1, hlk⟩ := HC.out w hSw
    go_simp; all_goals (with_reducible rfl)
  simp only [Act.put, List.setIfInBounds_toArray, List.set_cons_zero, List.set_cons_succ]
  refine wpAnyH_take (i := 2) (oi := { dst := some 10, op := Op.fieldAddr 57 (Operand.tmp 9) 3, type := 0, pos := "finder.go:102", after := #[{ on := 1, ground := Ground.data }], guard := none }) (v := ?vbp3) rfl (by kernel_rfl) (by kernel_rfl) (by kernel_rfl) (fun _ _ _ h => h) (Or.inl ⟨by rfl, ?ybp3⟩) hS ?_
  case ybp3 =>
    intro w hSw
    obtain ⟨c0, c3, i0, i1, hlk⟩ := HC.out w hSw
    go_simp; all_goals (with_reducible rfl)
  simp only [Act.put, List.setIfInBounds_toArray, List.set_cons_zero, List.set_cons_succ]
  refine wpAnyH_take (i := 3) (oi := { dst := some 11, op := Op.load 54 (Operand.tmp 10), type := 54, pos := "finder.go:102", after := #[{ on := 2, ground := Ground.data }], guard := none }) (v := ?vbp4) rfl (by kernel_rfl) (by kernel_rfl) (by kernel_rfl) (fun _ _ _ h => h) (Or.inl ⟨by rfl, ?ybp4⟩) hS ?_
  case ybp4 =>
    intro w hSw
    obtain ⟨c0, c3, i0, i1, hlk⟩ := HC.out w hSw
    go_simp; all_goals (with_reducible rfl)
  simp only [Act.put, List.setIfInBounds_toArray, List.set_cons_zero, List.set_cons_succ]
  refine wpAnyH_take (i := 4) (oi := { dst := some 12, op := Op.move (Operand.tmp 0), type := 35, pos := "finder.go:102", after := #[], guard := none }) (v := ?vbp5) rfl (by kernel_rfl) (by kernel_rfl) (by kernel_rfl) (fun _ _ _ h => h) (Or.inl ⟨by rfl, ?ybp5⟩) hS ?_
  case ybp5 =>
    intro w hSw
    obtain ⟨c0, c3, i0, i1, hlk⟩ := HC.out w hSw
    go_simp; all_goals (with_reducible rfl)
  simp only [Act.put, List.setIfInBounds_toArray, List.set_cons_zero, List.set_cons_succ]
  refine wpAnyH_take (i := 5) (oi := { dst := some 13, op := Op.nilCheck (Operand.tmp 12), type := 0, pos := "finder.go:102", after := #[{ on := 4, ground := Ground.data }], guard := none }) (v := ?vbp6) rfl (by kernel_rfl) (by kernel_rfl) (by kernel_rfl) (fun _ _ _ h => h) (Or.inl ⟨by rfl, ?ybp6⟩) hS ?_
  case ybp6 =>
    intro w hSw
    obtain ⟨c0, c3, i0, i1, hlk⟩ := HC.out w hSw
    go_simp; all_goals (with_reducible rfl)
  simp only [Act.put, List.setIfInBounds_toArray, List.set_cons_zero, List.set_cons_succ]
  refine wpAnyH_take (i := 6) (oi := { dst := some 14, op := Op.fieldAddr 57 (Operand.tmp 13) 0, type := 0, pos := "finder.go:102", after := #[{ on := 5, ground := Ground.data }], guard := none }) (v := ?vbp7) rfl (by kernel_rfl) (by kernel_rfl) (by kernel_rfl) (fun _ _ _ h => h) (Or.inl ⟨by rfl, ?ybp7⟩) hS ?_
  case ybp7 =>
    intro w hSw
    obtain ⟨c0, c3, i0, i1, hlk⟩ := HC.out w hSw
    go_simp; all_goals (with_reducible rfl)
  simp only [Act.put, List.setIfInBounds_toArray, List.set_cons_zero, List.set_cons_succ]
  refine wpAnyH_take (i := 7) (oi := { dst := some 15, op := Op.load 22 (Operand.tmp 14), type := 22, pos := "finder.go:102", after := #[{ on := 6, ground := Ground.data }], guard := none }) (v := ?vbp8) rfl (by kernel_rfl) (by kernel_rfl) (by kernel_rfl) (fun _ _ _ h => h) (Or.inl ⟨by rfl, ?ybp8⟩) hS ?_
  case ybp8 =>
    intro w hSw
    obtain ⟨c0, c3, i0, i1, hlk⟩ := HC.out w hSw
    go_simp; all_goals (with_reducible rfl)
  simp only [Act.put, List.setIfInBounds_toArray, List.set_cons_zero, List.set_cons_succ]
  refine wpAnyH_take (i := 8) (oi := { dst := some 16, op := Op.move (Operand.tmp 1), type := 3, pos := "finder.go:102", after := #[], guard := none }) (v := ?vbp9) rfl (by kernel_rfl) (by kernel_rfl) (by kernel_rfl) (fun _ _ _ h => h) (Or.inl ⟨by rfl, ?ybp9⟩) hS ?_
  case ybp9 =>
    intro w hSw
    obtain ⟨c0, c3, i0, i1, hlk⟩ := HC.out w hSw
    go_simp; all_goals (with_reducible rfl)
  simp only [Act.put, List.setIfInBounds_toArray, List.set_cons_zero, List.set_cons_succ]
  refine wpAnyH_take (i := 9) (oi := { dst := some 17, op := Op.indexAddr 22 (Operand.tmp 15) (Operand.tmp 16), type := 0, pos := "finder.go:102", after := #[{ on := 7, ground := Ground.data }, { on := 8, ground := Ground.data }], guard := none }) (v := ?vbp10) rfl (by kernel_rfl) (by kernel_rfl) (by kernel_rfl) (fun _ _ _ h => h) (Or.inl ⟨by rfl, ?ybp10⟩) hS ?_
  case ybp10 =>
    intro w hSw
    obtain ⟨c0, c3, i0, i1, hlk⟩ := HC.out w hSw
    go_simp; all_goals (with_reducible rfl)
  simp only [Act.put, List.setIfInBounds_toArray, List.set_cons_zero, List.set_cons_succ]
  refine wpAnyH_take (i := 10) (oi := { dst := some 18, op := Op.load 5 (Operand.tmp 17), type := 5, pos := "finder.go:102", after := #[{ on := 9, ground := Ground.data }], guard := none }) (v := ?vbp11) rfl (by kernel_rfl) (by kernel_rfl) (by kernel_rfl) (fun _ _ _ h => h) (Or.inl ⟨by rfl, ?ybp11⟩) hS ?_
  case ybp11 =>
    intro w hSw
    obtain ⟨c0, c3, i0, i1, hlk⟩ := HC.out w hSw
    go_simp; all_goals (with_reducible rfl)
  simp only [Act.put, List.setIfInBounds_toArray, List.set_cons_zero, List.set_cons_succ]
  refine wpAnyH_take (i := 11) (oi := { dst := some 19, op := Op.move (Operand.tmp 0), type := 35, pos := "finder.go:102", after := #[], guard := none }) (v := ?vbp12) rfl (by kernel_rfl) (by kernel_rfl) (by kernel_rfl) (fun _ _ _ h => h) (Or.inl ⟨by rfl, ?ybp12⟩) hS ?_
  case ybp12 =>
    intro w hSw
    obtain ⟨c0, c3, i0, i1, hlk⟩ := HC.out w hSw
    go_simp; all_goals (with_reducible rfl)
  simp only [Act.put, List.setIfInBounds_toArray, List.set_cons_zero, List.set_cons_succ]
  refine wpAnyH_take (i := 12) (oi := { dst := some 20, op := Op.nilCheck (Operand.tmp 19), type := 0, pos := "finder.go:102", after := #[{ on := 11, ground := Ground.data }], guard := none }) (v := ?vbp13) rfl (by kernel_rfl) (by kernel_rfl) (by kernel_rfl) (fun _ _ _ h => h) (Or.inl ⟨by rfl, ?ybp13⟩) hS ?_
  case ybp13 =>
    intro w hSw
    obtain ⟨c0, c3, i0, i1, hlk⟩ := HC.out w hSw
    go_simp; all_goals (with_reducible rfl)
  simp only [Act.put, List.setIfInBounds_toArray, List.set_cons_zero, List.set_cons_succ]
  refine wpAnyH_take (i := 13) (oi := { dst := some 21, op := Op.fieldAddr 57 (Operand.tmp 20) 0, type := 0, pos := "finder.go:102", after := #[{ on := 12, ground := Ground.data }], guard := none }) (v := ?vbp14) rfl (by kernel_rfl) (by kernel_rfl) (by kernel_rfl) (fun _ _ _ h => h) (Or.inl ⟨by rfl, ?ybp14⟩) hS ?_
  case ybp14 =>
    intro w hSw
    obtain ⟨c0, c3, i0, i1, hlk⟩ := HC.out w hSw
    go_simp; all_goals (with_reducible rfl)
  simp only [Act.put, List.setIfInBounds_toArray, List.set_cons_zero, List.set_cons_succ]
  refine wpAnyH_take (i := 14) (oi := { dst := some 22, op := Op.load 22 (Operand.tmp 21), type := 22, pos := "finder.go:102", after := #[{ on := 13, ground := Ground.data }], guard := none }) (v := ?vbp15) rfl (by kernel_rfl) (by kernel_rfl) (by kernel_rfl) (fun _ _ _ h => h) (Or.inl ⟨by rfl, ?ybp15⟩) hS ?_
  case ybp15 =>
    intro w hSw
    obtain ⟨c0, c3, i0, i1, hlk⟩ := HC.out w hSw
    go_simp; all_goals (with_reducible rfl)
  simp only [Act.put, List.setIfInBounds_toArray, List.set_cons_zero, List.set_cons_succ]
  refine wpAnyH_take (i := 15) (oi := { dst := some 23, op := Op.move (Operand.tmp 1), type := 3, pos := "finder.go:102", after := #[], guard := none }) (v := ?vbp16) rfl (by kernel_rfl) (by kernel_rfl) (by kernel_rfl) (fun _ _ _ h => h) (Or.inl ⟨by rfl, ?ybp16⟩) hS ?_
  case ybp16 =>
    intro w hSw
    obtain ⟨c0, c3, i0, i1, hlk⟩ := HC.out w hSw
    go_simp; all_goals (with_reducible rfl)
  simp only [Act.put, List.setIfInBounds_toArray, List.set_cons_zero, List.set_cons_succ]
  refine wpAnyH_take (i := 16) (oi := { dst := some 24, op := Op.binOp BinOp.add 3 (Operand.tmp 23) (Operand.const (Value.int IntKind.i64 1)) 3, type := 3, pos := "finder.go:102", after := #[{ on := 15, ground := Ground.data }], guard := none }) (v := ?vbp17) rfl (by kernel_rfl) (by kernel_rfl) (by kernel_rfl) (fun _ _ _ h => h) (Or.inl ⟨by rfl, ?ybp17⟩) hS ?_
  case ybp17 =>
    intro w hSw
    obtain ⟨c0, c3, i0, i1, hlk⟩ := HC.out w hSw
    go_simp; all_goals (with_reducible rfl)
  simp only [Act.put, List.setIfInBounds_toArray, List.set_cons_zero, List.set_cons_succ]
  refine wpAnyH_take (i := 17) (oi := { dst := some 25, op := Op.indexAddr 22 (Operand.tmp 22) (Operand.tmp 24), type := 0, pos := "finder.go:102", after := #[{ on := 14, ground := Ground.data }, { on := 16, ground := Ground.data }], guard := none }) (v := ?vbp18) rfl (by kernel_rfl) (by kernel_rfl) (by kernel_rfl) (fun _ _ _ h => h) (Or.inl ⟨by rfl, ?ybp18⟩) hS ?_
  case ybp18 =>
    intro w hSw
    obtain ⟨c0, c3, i0, i1, hlk⟩ := HC.out w hSw
    go_simp; all_goals (with_reducible rfl)
  simp only [Act.put, List.setIfInBounds_toArray, List.set_cons_zero, List.set_cons_succ]
  refine wpAnyH_take (i := 18) (oi := { dst := some 26, op := Op.load 5 (Operand.tmp 25), type := 5, pos := "finder.go:102", after := #[{ on := 17, ground := Ground.data }], guard := none }) (v := ?vbp19) rfl (by kernel_rfl) (by kernel_rfl) (by kernel_rfl) (fun _ _ _ h => h) (Or.inl ⟨by rfl, ?ybp19⟩) hS ?_
  case ybp19 =>
    intro w hSw
    obtain ⟨c0, c3, i0, i1, hlk⟩ := HC.out w hSw
    go_simp; all_goals (with_reducible rfl)
  simp only [Act.put, List.setIfInBounds_toArray, List.set_cons_zero, List.set_cons_succ]
  refine wpAnyH_take (i := 19) (oi := { dst := some 27, op := Op.build 98 #[(0, Operand.tmp 18), (1, Operand.tmp 26)], type := 98, pos := "finder.go:102", after := #[{ on := 10, ground := Ground.data }, { on := 18, ground := Ground.data }], guard := none }) (v := ?vbp20) rfl (by kernel_rfl) (by kernel_rfl) (by kernel_rfl) (fun _ _ _ h => h) (Or.inl ⟨by rfl, ?ybp20⟩) hS ?_
  case ybp20 =>
    intro w hSw
    obtain ⟨c0, c3, i0, i1, hlk⟩ := HC.out w hSw
    go_simp; all_goals (with_reducible rfl)
  simp only [Act.put, List.setIfInBounds_toArray, List.set_cons_zero, List.set_cons_succ]
  refine wpAnyH_take (i := 20) (oi := { dst := some 28, op := Op.lookup 54 (Operand.tmp 11) (Operand.tmp 27) false, type := 55, pos := "finder.go:102", after := #[{ on := 3, ground := Ground.data }, { on := 19, ground := Ground.data }], guard := none }) (v := ?vbp21) rfl (by kernel_rfl) (by kernel_rfl) (by kernel_rfl) (fun _ _ _ h => h) (Or.inl ⟨by rfl, ?ybp21⟩) hS ?_
  case ybp21 =>
    intro w hSw
    obtain ⟨c0, c3, i0, i1, hlk⟩ := HC.out w hSw
    go_simp; all_goals (with_reducible rfl)
  simp only [Act.put, List.setIfInBounds_toArray, List.set_cons_zero, List.set_cons_succ]
  refine wpAnyH_ready (rs := [21]) (by kernel_rfl) (by simp) ?_
  refine (AllReadyH.cons (o := { dst := some 5, op := Op.alloc 55, type := 0, pos := "finder.go:102", after := #[], guard := none }) rfl (fun K hK => ?_) AllReadyH.nil)
  go_simp
  refine hK.out _ _ (Below.alloc hS hS.size _) (fun _ => ?_)
  clear hK K
  refine wpAnyH_ready (rs := [22]) (by kernel_rfl) (by simp) ?_
  refine (AllReadyH.cons (o := { dst := none, op := Op.store 55 (Operand.tmp 5) (Operand.tmp 28), type := 0, pos := "finder.go:102", after := #[{ on := 21, ground := Ground.data }, { on := 20, ground := Ground.data }, { on := 0, ground := Ground.phase }, { on := 1, ground := Ground.phase }, { on := 2, ground := Ground.phase }, { on := 3, ground := Ground.phase }, { on := 4, ground := Ground.phase }, { on := 5, ground := Ground.phase }, { on := 6, ground := Ground.phase }, { on := 7, ground := Ground.phase }, { on := 8, ground := Ground.phase }, { on := 9, ground := Ground.phase }, { on := 10, ground := Ground.phase }, { on := 11, ground := Ground.phase }, { on := 12, ground := Ground.phase }, { on := 13, ground := Ground.phase }, { on := 14, ground := Ground.phase }, { on := 15, ground := Ground.phase }, { on := 16, ground := Ground.phase }, { on := 17, ground := Ground.phase }, { on := 18, ground := Ground.phase }, { on := 19, ground := Ground.phase }, { on := 20, ground := Ground.phase }, { on := 21, ground := Ground.phase }], guard := none }) rfl (fun K hK => ?_) AllReadyH.nil)
  go_simp
  refine hK.out _ _ (Below.alloc hS hS.size _) (fun _ => ?_)
  clear hK K
  refine wpAnyH_done (by kernel_rfl) ?_ _
  obtain ⟨W2, hW2⟩ : ∃ W2, (w.alloc (.cells #[.slice PA L.length cp] 55)).drew = W2 := ⟨_, rfl⟩
  rw [hW2]
  have hb2 : Below w.heap.size w W2 := by
    rw [← hW2]
    have h := (Below.refl w.heap.size w).alloc (Nat.le_refl _) (.cells #[.slice PA L.length cp] 55)
    exact ⟨h.os, h.tape, h.output, h.size, h.block⟩
  have hx2 : BoxAt w.heap.size W2 (.slice PA L.length cp) := ⟨_, by rw [← hW2]; exact heap_alloc_last _ _⟩
  have c5 := hx2.cell
  have HSE := Lib.hid (search_any PA L cp place W2 (HREAD.out.below hb2) HLL.out HCP.out HRISE.out)
  have HB2 := Lib.hid hb2
  have HX2 := Lib.hid hx2
  have hsz2 : Hid (W2.heap.size = w.heap.size + 1) := Lib.hid (by rw [← hW2]; simp [World.drew])
  clear hW2 hb2 hx2 hS
  go_wp2_with fail
  refine HSE.out.mono ?_
  rintro e w3 ⟨⟨i, bb, rfl, hi, hlo, hhi⟩, rfl⟩
  have HI := Lib.hid (And.intro hi (And.intro hlo hhi))
  obtain ⟨W4, hW4⟩ : ∃ W4, W2.alloc (.cells #[.int .i64 (i : Nat)] 3) = W4 := ⟨_, rfl⟩
  have hb4 : Below W2.heap.size W2 W4 := by rw [← hW4]; exact (Below.refl _ _).alloc (Nat.le_refl _) _
  have hx4 : BoxAt W2.heap.size W4 (.int .i64 (i : Nat)) := by rw [← hW4]; exact BoxAt.made _ _ _
  have HW4 := Lib.hid hW4
  have H4 := Lib.hid (And.intro hb4 hx4)
  clear hi hlo hhi hW4 hb4 hx4
  go_wp2_with fail
  rw [HW4.out]
  go_ret
  have hb24 := HB2.out.trans (H4.out.1.mono HB2.out.size)
  refine ⟨_, _, PA, cp, i, rfl, H4.out.2, HX2.out.keep (H4.out.1.block _ (by rw [hsz2.out]; omega)), HREAD.out.below hb24, HCP.out, HI.out.1, HI.out.2.1, HI.out.2.2, hb24⟩
end Go.Proofs.YtklkboplkobhgaaGreat

/- slices.Clone of bytes. -/
namespace Go.Proofs.YtklkboplkobhgaaGreat
set_option maxRecDepth 100000
open Go.RowKit

theorem eqIn_sl (d : Nat) (A : Option Addr) (n c : Nat) (w : World) : (Op.equalIn (d + 1) 22 (.slice A n c) (.slice none 0 0)).run Tryz.prog w = .ok A.isNone w := by
  cases A <;> simp [Op.equalIn, run_underlying Tryz.underlying22]
theorem eq_sl (A : Option Addr) (n c : Nat) (w : World) : (binOp .eql 22 (.slice A n c) (.slice none 0 0)).run Tryz.prog w = .ok (.bool A.isNone) w := by
  have e : Op.maxDepth = 9999 + 1 := rfl
  simp only [binOp, Op.equal, e, Sem.run_bind, Sem.run_pure, eqIn_sl, Result.andThen_ok]
def CloneDone (l : List UInt8) (w : World) (e : Ending) (w' : World) : Prop := ∃ v, e = .returned v ∧ Own w.heap.size w' v l ∧ Below w.heap.size w w'
set_option maxRecDepth 100000 in
set_option maxHeartbeats 1000000 in
theorem clone_any (A : Option Addr) (l : List UInt8) (c : Nat) (w : World) (hB : Bytes w A l) (hc : l.length ≤ c) (hl : l.length ≤ 100000) :
    Calls Tryz.prog 19 #[.slice A l.length c] w (CloneDone l w) := by
  cases A with
  | none =>
    obtain rfl : l = [] := by
      rcases Nat.eq_zero_or_pos l.length with h | h
      · exact List.eq_nil_of_length_eq_zero h
      · obtain ⟨_, _, e, _⟩ := hB.addr h; cases e
    clear hB
    have hq := eq_sl none 0 c w
    simp only [Option.isNone] at hq
    go_enter Tryz.func19, Tryz.ntmps19
    go_wp2_with fail
    go_ret
    exact ⟨_, rfl, Own.nil _ _, Below.refl _ _⟩
  | some a =>
    have hlen : ([] : List UInt8).length + l.length ≤ 140737488355328 := by simp; omega
    have ho := Own.lit (base := w.heap.size) w [] (Nat.le_refl _) (by simp)
    have hb0 : Below w.heap.size w (w.alloc (.cells (([] : List UInt8).map B8).toArray 5)) := (Below.refl _ _).alloc (Nat.le_refl _) _
    have hs0 := hb0.size
    have HB := Lib.hid hB
    clear hB
    have hq := eq_sl (some a) l.length c w
    simp only [Option.isNone] at hq
    go_enter Tryz.func19, Tryz.ntmps19
    go_wp2_with (at_builtin; refine wpList_append_bytes rfl (.tmp 5) (.tmp 6) rfl w.heap.size _ _ [] rfl ho (some a) l c rfl (HB.out.below hb0) hlen hs0 ?_; intro v1 w1 ho1 hg1; have hb1 : Below w.heap.size w w1 := below_grown hb0 hg1 hs0 (fun g e => (ho.from_base g e).1))
    go_ret
    exact ⟨_, rfl, by simpa using ho1, hb1⟩
end Go.Proofs.YtklkboplkobhgaaGreat

/- The finder's sameFour. -/
namespace Go.Proofs.YtklkboplkobhgaaGreat
set_option maxRecDepth 100000
open Go.RowKit Go.Maps

set_option maxRecDepth 100000 in
set_option maxHeartbeats 2000000 in
theorem sameFour_any (A : Option Addr) (l : List UInt8) (c n : Nat) (w : World) (hB : Bytes w A l) (hc : l.length ≤ c) (hl : l.length ≤ 100000) (hn : n = l.length - 3) :
    Calls Tryz.prog 21 #[.slice A l.length c] w fun e w' => e = .returned (.slice (some ⟨w.heap.size + 1, 0, none⟩) n n) ∧ w'.heap[w.heap.size + 1]? = some (.cells (prevs l n).toArray 21 (0, 0)) ∧ Below w.heap.size w w' := by
  have hci : (l.length : Int) ≤ (c : Int) := by omega
  have hli : (l.length : Int) ≤ 100000 := by omega
  have hmx : max ((l.length : Int) - 3) 0 = (n : Int) := by omega
  have hn6 : n ≤ 1000000 := by omega
  have hni : (n : Int) ≤ 100000 := by omega
  have HBY := Lib.hid hB
  have HN := Lib.hid hn
  have hmm : ∀ w : World, (Instr.makeMap 99 none).run Tryz.prog w = .ok (.map (some w.heap.size)) (w.alloc (.map #[] 0)) := fun w => run_makeMap _ w
  clear hB hn hl hc
  go_enter Tryz.func21, Tryz.ntmps21
  go_wp2_with (at_make; refine wpList_make_i32 rfl (.tmp 13) (.tmp 13) rfl n (w.alloc (.map #[] 0)) rfl rfl hn6 ?_; intro w1 hrow hg)
  have hb1 : Below w.heap.size w w1 := below_grown ((Below.refl _ _).alloc (Nat.le_refl _) _) hg (by simp) (fun g e => by cases e)
  have hsz1 : (w.alloc (.map #[] 0)).heap.size = w.heap.size + 1 := by simp
  have HMP : Hid (LastAt w1 w.heap.size l 0) := Lib.hid ((LastAt.made w l).keep (hg.block _ (by rw [hsz1]; omega) (by simp)))
  rw [hsz1] at hrow
  have HROW := Lib.hid hrow
  have HB1 := Lib.hid hb1
  clear hrow hg hb1 hsz1
  go_loopw [17] (fun i wr => ∃ k : Nat, k ≤ n ∧ i = .int .i64 (k : Nat) ∧ Hid (wr.heap[w.heap.size + 1]? = some (.cells (prevs l k ++ List.replicate (n - k) (Value.int .i32 0)).toArray 21 (0, 0))) ∧ Hid (LastAt wr w.heap.size l k) ∧ Hid (Below w.heap.size w wr)) (fun i _ => n - (intOf i).toNat)
  case atStart => exact ⟨0, by omega, rfl, Lib.hid (by rw [Nat.sub_zero]; exact HROW.out), HMP, HB1⟩
  case round =>
    obtain ⟨k, hk, rfl, HR, HL, HB⟩ := hrel
    by_cases hkl : k < n
    · have hki : (k : Int) < (n : Int) := by omega
      have hk3 : (k : Int) + 3 < (l.length : Int) := by have := HN.out; omega
      obtain ⟨b, off, rfl, hbl, hat⟩ := (HBY.out.below HB.out).addr (by omega)
      have hx0 := hat k (by omega)
      have hx1 := hat (k + 1) (by omega)
      have hx2 := hat (k + 2) (by omega)
      have hx3 := hat (k + 3) (by omega)
      have e0 := getD_of (d := l) (i := k) (by omega)
      have e1 := getD_of (d := l) (i := k + 1) (by omega)
      have e2 := getD_of (d := l) (i := k + 2) (by omega)
      have e3 := getD_of (d := l) (i := k + 3) (by omega)
      generalize l[k]'(by omega) = z0 at *
      generalize l[k + 1]'(by omega) = z1 at *
      generalize l[k + 2]'(by omega) = z2 at *
      generalize l[k + 3]'(by omega) = z3 at *
      have HFO : Hid (four l k = (z0, z1, z2, z3)) := Lib.hid (by unfold four; rw [e0, e1, e2, e3])
      obtain ⟨y1, hy1⟩ : ∃ y : Nat, k + 1 = y := ⟨_, rfl⟩
      obtain ⟨y2, hy2⟩ : ∃ y : Nat, k + 2 = y := ⟨_, rfl⟩
      obtain ⟨y3, hy3⟩ : ∃ y : Nat, k + 3 = y := ⟨_, rfl⟩
      rw [hy1] at hx1
      rw [hy2] at hx2
      rw [hy3] at hx3
      have k1 : (k : Int) + 1 = (y1 : Int) := by omega
      have k2 : (k : Int) + 2 = (y2 : Int) := by omega
      have k3 : (k : Int) + 3 = (y3 : Int) := by omega
      have l1 : (y1 : Int) < (l.length : Int) := by omega
      have l2 : (y2 : Int) < (l.length : Int) := by omega
      have l3 : (y3 : Int) < (l.length : Int) := by omega
      have l0 : (k : Int) < (l.length : Int) := by omega
      have HC := Lib.hid (fun (wx : World) (h : wx.heap[b]? = wr.heap[b]?) => (show wx.cell? ⟨b, off + k, none⟩ = some (.int .u8 (z0.toNat : Nat)) ∧ wx.cell? ⟨b, off + y1, none⟩ = some (.int .u8 (z1.toNat : Nat)) ∧ wx.cell? ⟨b, off + y2, none⟩ = some (.int .u8 (z2.toNat : Nat)) ∧ wx.cell? ⟨b, off + y3, none⟩ = some (.int .u8 (z3.toNat : Nat)) from by
        refine ⟨?_, ?_, ?_, ?_⟩
        · rw [← hx0]; unfold World.cell?; rw [h]
        · rw [← hx1]; unfold World.cell?; rw [h]
        · rw [← hx2]; unfold World.cell?; rw [h]
        · rw [← hx3]; unfold World.cell?; rw [h]))
      have v1 : IntKind.i64.wrap (y1 : Int) = (y1 : Int) := IntWalk.i64_in _ (by omega)
      have v2 : IntKind.i64.wrap (y2 : Int) = (y2 : Int) := IntWalk.i64_in _ (by omega)
      have v3 : IntKind.i64.wrap (y3 : Int) = (y3 : Int) := IntWalk.i64_in _ (by omega)
      clear hat e0 e1 e2 e3 hy1 hy2 hy3 hk3 hx0 hx1 hx2 hx3
      go_wp2_with fail
      refine wp_region_held_drew (S := fun w2 => w2.heap[b]? = wr.drew.heap[b]?) (by kernel_rfl) rfl (fun hS => ?_)
      refine wpAnyH_take (i := 0) (oi := { dst := some 20, op := Op.move (Operand.tmp 0), type := 22, pos := "finder.go:125", after := #[], guard := none }) (v := ?vsf1) rfl (by kernel_rfl) (by kernel_rfl) (by kernel_rfl) (fun _ _ _ h => h) (Or.inl ⟨by rfl, ?ysf1⟩) hS ?_
      case ysf1 =>
        intro w hSw
        obtain ⟨i0, i1, i2, i3⟩ := HC.out w hSw
        go_simp; all_goals (with_reducible rfl)
      simp only [Act.put, List.setIfInBounds_toArray, List.set_cons_zero, List.set_cons_succ]
      refine wpAnyH_take (i := 1) (oi := { dst := some 21, op := Op.move (Operand.tmp 5), type := 3, pos := "finder.go:125", after := #[], guard := none }) (v := ?vsf2) rfl (by kernel_rfl) (by kernel_rfl) (by kernel_rfl) (fun _ _ _ h => h) (Or.inl ⟨by rfl, ?ysf2⟩) hS ?_
      case ysf2 =>
        intro w hSw
        obtain ⟨i0, i1, i2, i3⟩ := HC.out w hSw
        go_simp; all_goals (with_reducible rfl)
      simp only [Act.put, List.setIfInBounds_toArray, List.set_cons_zero, List.set_cons_succ]
      refine wpAnyH_take (i := 2) (oi := { dst := some 22, op := Op.indexAddr 22 (Operand.tmp 20) (Operand.tmp 21), type := 0, pos := "finder.go:125", after := #[{ on := 0, ground := Ground.data }, { on := 1, ground := Ground.data }], guard := none }) (v := ?vsf3) rfl (by kernel_rfl) (by kernel_rfl) (by kernel_rfl) (fun _ _ _ h => h) (Or.inl ⟨by rfl, ?ysf3⟩) hS ?_
      case ysf3 =>
        intro w hSw
        obtain ⟨i0, i1, i2, i3⟩ := HC.out w hSw
        go_simp; all_goals (with_reducible rfl)
      simp only [Act.put, List.setIfInBounds_toArray, List.set_cons_zero, List.set_cons_succ]
      refine wpAnyH_take (i := 3) (oi := { dst := some 23, op := Op.load 5 (Operand.tmp 22), type := 5, pos := "finder.go:125", after := #[{ on := 2, ground := Ground.data }], guard := none }) (v := ?vsf4) rfl (by kernel_rfl) (by kernel_rfl) (by kernel_rfl) (fun _ _ _ h => h) (Or.inl ⟨by rfl, ?ysf4⟩) hS ?_
      case ysf4 =>
        intro w hSw
        obtain ⟨i0, i1, i2, i3⟩ := HC.out w hSw
        go_simp; all_goals (with_reducible rfl)
      simp only [Act.put, List.setIfInBounds_toArray, List.set_cons_zero, List.set_cons_succ]
      refine wpAnyH_take (i := 4) (oi := { dst := some 24, op := Op.move (Operand.tmp 0), type := 22, pos := "finder.go:125", after := #[], guard := none }) (v := ?vsf5) rfl (by kernel_rfl) (by kernel_rfl) (by kernel_rfl) (fun _ _ _ h => h) (Or.inl ⟨by rfl, ?ysf5⟩) hS ?_
      case ysf5 =>
        intro w hSw
        obtain ⟨i0, i1, i2, i3⟩ := HC.out w hSw
        go_simp; all_goals (with_reducible rfl)
      simp only [Act.put, List.setIfInBounds_toArray, List.set_cons_zero, List.set_cons_succ]
      refine wpAnyH_take (i := 5) (oi := { dst := some 25, op := Op.move (Operand.tmp 5), type := 3, pos := "finder.go:125", after := #[], guard := none }) (v := ?vsf6) rfl (by kernel_rfl) (by kernel_rfl) (by kernel_rfl) (fun _ _ _ h => h) (Or.inl ⟨by rfl, ?ysf6⟩) hS ?_
      case ysf6 =>
        intro w hSw
        obtain ⟨i0, i1, i2, i3⟩ := HC.out w hSw
        go_simp; all_goals (with_reducible rfl)
      simp only [Act.put, List.setIfInBounds_toArray, List.set_cons_zero, List.set_cons_succ]
      refine wpAnyH_take (i := 6) (oi := { dst := some 26, op := Op.binOp BinOp.add 3 (Operand.tmp 25) (Operand.const (Value.int IntKind.i64 1)) 3, type := 3, pos := "finder.go:125", after := #[{ on := 5, ground := Ground.data }], guard := none }) (v := ?vsf7) rfl (by kernel_rfl) (by kernel_rfl) (by kernel_rfl) (fun _ _ _ h => h) (Or.inl ⟨by rfl, ?ysf7⟩) hS ?_
      case ysf7 =>
        intro w hSw
        obtain ⟨i0, i1, i2, i3⟩ := HC.out w hSw
        go_simp; all_goals (with_reducible rfl)
      simp only [Act.put, List.setIfInBounds_toArray, List.set_cons_zero, List.set_cons_succ]
      refine wpAnyH_take (i := 7) (oi := { dst := some 27, op := Op.indexAddr 22 (Operand.tmp 24) (Operand.tmp 26), type := 0, pos := "finder.go:125", after := #[{ on := 4, ground := Ground.data }, { on := 6, ground := Ground.data }], guard := none }) (v := ?vsf8) rfl (by kernel_rfl) (by kernel_rfl) (by kernel_rfl) (fun _ _ _ h => h) (Or.inl ⟨by rfl, ?ysf8⟩) hS ?_
      case ysf8 =>
        intro w hSw
        obtain ⟨i0, i1, i2, i3⟩ := HC.out w hSw
        go_simp; all_goals (with_reducible rfl)
      simp only [Act.put, List.setIfInBounds_toArray, List.set_cons_zero, List.set_cons_succ]
      refine wpAnyH_take (i := 8) (oi := { dst := some 28, op := Op.load 5 (Operand.tmp 27), type := 5, pos := "finder.go:125", after := #[{ on := 7, ground := Ground.data }], guard := none }) (v := ?vsf9) rfl (by kernel_rfl) (by kernel_rfl) (by kernel_rfl) (fun _ _ _ h => h) (Or.inl ⟨by rfl, ?ysf9⟩) hS ?_
      case ysf9 =>
        intro w hSw
        obtain ⟨i0, i1, i2, i3⟩ := HC.out w hSw
        go_simp; all_goals (with_reducible rfl)
      simp only [Act.put, List.setIfInBounds_toArray, List.set_cons_zero, List.set_cons_succ]
      refine wpAnyH_take (i := 9) (oi := { dst := some 29, op := Op.move (Operand.tmp 0), type := 22, pos := "finder.go:125", after := #[], guard := none }) (v := ?vsf10) rfl (by kernel_rfl) (by kernel_rfl) (by kernel_rfl) (fun _ _ _ h => h) (Or.inl ⟨by rfl, ?ysf10⟩) hS ?_
      case ysf10 =>
        intro w hSw
        obtain ⟨i0, i1, i2, i3⟩ := HC.out w hSw
        go_simp; all_goals (with_reducible rfl)
      simp only [Act.put, List.setIfInBounds_toArray, List.set_cons_zero, List.set_cons_succ]
      refine wpAnyH_take (i := 10) (oi := { dst := some 30, op := Op.move (Operand.tmp 5), type := 3, pos := "finder.go:125", after := #[], guard := none }) (v := ?vsf11) rfl (by kernel_rfl) (by kernel_rfl) (by kernel_rfl) (fun _ _ _ h => h) (Or.inl ⟨by rfl, ?ysf11⟩) hS ?_
      case ysf11 =>
        intro w hSw
        obtain ⟨i0, i1, i2, i3⟩ := HC.out w hSw
        go_simp; all_goals (with_reducible rfl)
      simp only [Act.put, List.setIfInBounds_toArray, List.set_cons_zero, List.set_cons_succ]
      refine wpAnyH_take (i := 11) (oi := { dst := some 31, op := Op.binOp BinOp.add 3 (Operand.tmp 30) (Operand.const (Value.int IntKind.i64 2)) 3, type := 3, pos := "finder.go:125", after := #[{ on := 10, ground := Ground.data }], guard := none }) (v := ?vsf12) rfl (by kernel_rfl) (by kernel_rfl) (by kernel_rfl) (fun _ _ _ h => h) (Or.inl ⟨by rfl, ?ysf12⟩) hS ?_
      case ysf12 =>
        intro w hSw
        obtain ⟨i0, i1, i2, i3⟩ := HC.out w hSw
        go_simp; all_goals (with_reducible rfl)
      simp only [Act.put, List.setIfInBounds_toArray, List.set_cons_zero, List.set_cons_succ]
      refine wpAnyH_take (i := 12) (oi := { dst := some 32, op := Op.indexAddr 22 (Operand.tmp 29) (Operand.tmp 31), type := 0, pos := "finder.go:125", after := #[{ on := 9, ground := Ground.data }, { on := 11, ground := Ground.data }], guard := none }) (v := ?vsf13) rfl (by kernel_rfl) (by kernel_rfl) (by kernel_rfl) (fun _ _ _ h => h) (Or.inl ⟨by rfl, ?ysf13⟩) hS ?_
      case ysf13 =>
        intro w hSw
        obtain ⟨i0, i1, i2, i3⟩ := HC.out w hSw
        go_simp; all_goals (with_reducible rfl)
      simp only [Act.put, List.setIfInBounds_toArray, List.set_cons_zero, List.set_cons_succ]
      refine wpAnyH_take (i := 13) (oi := { dst := some 33, op := Op.load 5 (Operand.tmp 32), type := 5, pos := "finder.go:125", after := #[{ on := 12, ground := Ground.data }], guard := none }) (v := ?vsf14) rfl (by kernel_rfl) (by kernel_rfl) (by kernel_rfl) (fun _ _ _ h => h) (Or.inl ⟨by rfl, ?ysf14⟩) hS ?_
      case ysf14 =>
        intro w hSw
        obtain ⟨i0, i1, i2, i3⟩ := HC.out w hSw
        go_simp; all_goals (with_reducible rfl)
      simp only [Act.put, List.setIfInBounds_toArray, List.set_cons_zero, List.set_cons_succ]
      refine wpAnyH_take (i := 14) (oi := { dst := some 34, op := Op.move (Operand.tmp 0), type := 22, pos := "finder.go:125", after := #[], guard := none }) (v := ?vsf15) rfl (by kernel_rfl) (by kernel_rfl) (by kernel_rfl) (fun _ _ _ h => h) (Or.inl ⟨by rfl, ?ysf15⟩) hS ?_
      case ysf15 =>
        intro w hSw
        obtain ⟨i0, i1, i2, i3⟩ := HC.out w hSw
        go_simp; all_goals (with_reducible rfl)
      simp only [Act.put, List.setIfInBounds_toArray, List.set_cons_zero, List.set_cons_succ]
      refine wpAnyH_take (i := 15) (oi := { dst := some 35, op := Op.move (Operand.tmp 5), type := 3, pos := "finder.go:125", after := #[], guard := none }) (v := ?vsf16) rfl (by kernel_rfl) (by kernel_rfl) (by kernel_rfl) (fun _ _ _ h => h) (Or.inl ⟨by rfl, ?ysf16⟩) hS ?_
      case ysf16 =>
        intro w hSw
        obtain ⟨i0, i1, i2, i3⟩ := HC.out w hSw
        go_simp; all_goals (with_reducible rfl)
      simp only [Act.put, List.setIfInBounds_toArray, List.set_cons_zero, List.set_cons_succ]
      refine wpAnyH_take (i := 16) (oi := { dst := some 36, op := Op.binOp BinOp.add 3 (Operand.tmp 35) (Operand.const (Value.int IntKind.i64 3)) 3, type := 3, pos := "finder.go:125", after := #[{ on := 15, ground := Ground.data }], guard := none }) (v := ?vsf17) rfl (by kernel_rfl) (by kernel_rfl) (by kernel_rfl) (fun _ _ _ h => h) (Or.inl ⟨by rfl, ?ysf17⟩) hS ?_
      case ysf17 =>
        intro w hSw
        obtain ⟨i0, i1, i2, i3⟩ := HC.out w hSw
        go_simp; all_goals (with_reducible rfl)
      simp only [Act.put, List.setIfInBounds_toArray, List.set_cons_zero, List.set_cons_succ]
      refine wpAnyH_take (i := 17) (oi := { dst := some 37, op := Op.indexAddr 22 (Operand.tmp 34) (Operand.tmp 36), type := 0, pos := "finder.go:125", after := #[{ on := 14, ground := Ground.data }, { on := 16, ground := Ground.data }], guard := none }) (v := ?vsf18) rfl (by kernel_rfl) (by kernel_rfl) (by kernel_rfl) (fun _ _ _ h => h) (Or.inl ⟨by rfl, ?ysf18⟩) hS ?_
      case ysf18 =>
        intro w hSw
        obtain ⟨i0, i1, i2, i3⟩ := HC.out w hSw
        go_simp; all_goals (with_reducible rfl)
      simp only [Act.put, List.setIfInBounds_toArray, List.set_cons_zero, List.set_cons_succ]
      refine wpAnyH_take (i := 18) (oi := { dst := some 38, op := Op.load 5 (Operand.tmp 37), type := 5, pos := "finder.go:125", after := #[{ on := 17, ground := Ground.data }], guard := none }) (v := ?vsf19) rfl (by kernel_rfl) (by kernel_rfl) (by kernel_rfl) (fun _ _ _ h => h) (Or.inl ⟨by rfl, ?ysf19⟩) hS ?_
      case ysf19 =>
        intro w hSw
        obtain ⟨i0, i1, i2, i3⟩ := HC.out w hSw
        go_simp; all_goals (with_reducible rfl)
      simp only [Act.put, List.setIfInBounds_toArray, List.set_cons_zero, List.set_cons_succ]
      refine wpAnyH_take (i := 19) (oi := { dst := some 39, op := Op.build 100 #[(0, Operand.tmp 23), (1, Operand.tmp 28), (2, Operand.tmp 33), (3, Operand.tmp 38)], type := 100, pos := "finder.go:125", after := #[{ on := 3, ground := Ground.data }, { on := 8, ground := Ground.data }, { on := 13, ground := Ground.data }, { on := 18, ground := Ground.data }], guard := none }) (v := ?vsf20) rfl (by kernel_rfl) (by kernel_rfl) (by kernel_rfl) (fun _ _ _ h => h) (Or.inl ⟨by rfl, ?ysf20⟩) hS ?_
      case ysf20 =>
        intro w hSw
        obtain ⟨i0, i1, i2, i3⟩ := HC.out w hSw
        go_simp; all_goals (with_reducible rfl)
      simp only [Act.put, List.setIfInBounds_toArray, List.set_cons_zero, List.set_cons_succ]
      refine wpAnyH_ready (rs := [20]) (by kernel_rfl) (by simp) ?_
      refine (AllReadyH.cons (o := { dst := some 6, op := Op.alloc 100, type := 0, pos := "finder.go:125", after := #[], guard := none }) rfl (fun K hK => ?_) AllReadyH.nil)
      go_simp
      refine hK.out _ _ (Below.heap_alloc _ _ _ hbl) (fun _ => ?_)
      clear hK K
      refine wpAnyH_ready (rs := [21]) (by kernel_rfl) (by simp) ?_
      refine (AllReadyH.cons (o := { dst := none, op := Op.store 100 (Operand.tmp 6) (Operand.tmp 39), type := 0, pos := "finder.go:125", after := #[{ on := 20, ground := Ground.data }, { on := 19, ground := Ground.data }, { on := 0, ground := Ground.phase }, { on := 1, ground := Ground.phase }, { on := 2, ground := Ground.phase }, { on := 3, ground := Ground.phase }, { on := 4, ground := Ground.phase }, { on := 5, ground := Ground.phase }, { on := 6, ground := Ground.phase }, { on := 7, ground := Ground.phase }, { on := 8, ground := Ground.phase }, { on := 9, ground := Ground.phase }, { on := 10, ground := Ground.phase }, { on := 11, ground := Ground.phase }, { on := 12, ground := Ground.phase }, { on := 13, ground := Ground.phase }, { on := 14, ground := Ground.phase }, { on := 15, ground := Ground.phase }, { on := 16, ground := Ground.phase }, { on := 17, ground := Ground.phase }, { on := 18, ground := Ground.phase }, { on := 19, ground := Ground.phase }, { on := 20, ground := Ground.phase }], guard := none }) rfl (fun K hK => ?_) AllReadyH.nil)
      go_simp
      refine hK.out _ _ (Below.heap_alloc _ _ _ hbl) (fun _ => ?_)
      clear hK K
      refine wpAnyH_done (by kernel_rfl) ?_ _
      obtain ⟨W2, hW2⟩ : ∃ W2, (wr.alloc (.cells #[.int .u8 (z0.toNat : Nat), .int .u8 (z1.toNat : Nat), .int .u8 (z2.toNat : Nat), .int .u8 (z3.toNat : Nat)] 100)).drew = W2 := ⟨_, rfl⟩
      rw [hW2]
      have hb2 : Below wr.heap.size wr W2 := by
        rw [← hW2]
        have h := (Below.refl wr.heap.size wr).alloc (Nat.le_refl _) (.cells #[.int .u8 (z0.toNat : Nat), .int .u8 (z1.toNat : Nat), .int .u8 (z2.toNat : Nat), .int .u8 (z3.toNat : Nat)] 100)
        exact ⟨h.os, h.tape, h.output, h.size, h.block⟩
      have hbx : W2.heap[wr.heap.size]? = some (.cells #[.int .u8 (z0.toNat : Nat), .int .u8 (z1.toNat : Nat), .int .u8 (z2.toNat : Nat), .int .u8 (z3.toNat : Nat)] 100 (0, 0)) := by
        rw [← hW2]; exact heap_alloc_last _ _
      have hgl : w.heap.size + 1 < wr.heap.size := (Array.getElem?_eq_some_iff.1 HR.out).1
      have hr2 := (hb2.block _ hgl).trans HR.out
      have hl2 : LastAt W2 w.heap.size l k := HL.out.keep (hb2.block _ (by omega))
      have hbB : Below w.heap.size w W2 := HB.out.trans (hb2.mono (by omega))
      clear hW2 hb2 hS
      have c1 : W2.cell? ⟨w.heap.size + 1, k, none⟩ = some (.int .i32 0) := by
        rw [cell_of_row W2 _ _ _ _ _ hr2, List.getElem?_toArray, List.getElem?_append_right (by simp [prevs]), show (prevs l k).length = k from by simp [prevs], Nat.sub_self, List.getElem?_replicate, if_pos (by omega)]
      have f1 : W2.frozen? ⟨w.heap.size + 1, k, none⟩ = false := by simp [World.frozen?, hr2]
      obtain ⟨W3, hW3⟩ : ∃ W3, W2.setCell ⟨w.heap.size + 1, k, none⟩ (.int .i32 (-1)) = W3 := ⟨_, rfl⟩
      have hr3 := heap_set hr2 k (.int .i32 (-1))
      have hbx3 := (show W3.heap[wr.heap.size]? = W2.heap[wr.heap.size]? from by rw [← hW3, heap_setCell_other _ _ _ _ (by simp; omega)]).trans hbx
      have hl3 : LastAt W3 w.heap.size l k := hl2.keep (by rw [← hW3, heap_setCell_other _ _ _ _ (by simp)])
      have hbB3 : Below w.heap.size w W3 := by rw [← hW3]; exact Below.setCell (p := ⟨w.heap.size + 1, k, none⟩) hbB (by simp) _
      rw [hW3] at hr3
      have HW3 := Lib.hid hW3
      have HR2 := Lib.hid hr2
      obtain ⟨cc, hlk, hcc⟩ := hl3.look (z0, z1, z2, z3)
      have HCC := Lib.hid hcc
      have x0 : W3.cell? ⟨wr.heap.size, 0, none⟩ = some (.int .u8 (z0.toNat : Nat)) := by rw [cell_of_row W3 _ _ _ _ _ hbx3]; rfl
      have x1 : W3.cell? ⟨wr.heap.size, 1, none⟩ = some (.int .u8 (z1.toNat : Nat)) := by rw [cell_of_row W3 _ _ _ _ _ hbx3]; rfl
      have x2 : W3.cell? ⟨wr.heap.size, 2, none⟩ = some (.int .u8 (z2.toNat : Nat)) := by rw [cell_of_row W3 _ _ _ _ _ hbx3]; rfl
      have x3 : W3.cell? ⟨wr.heap.size, 3, none⟩ = some (.int .u8 (z3.toNat : Nat)) := by rw [cell_of_row W3 _ _ _ _ _ hbx3]; rfl
      simp only [keyOf4, fourV] at hlk
      have HR3 := Lib.hid hr3
      have HL3 := Lib.hid hl3
      have HB3 := Lib.hid hbB3
      clear hW3 hr2 hl2 hbB hbx hcc hr3 hl3 hbB3
      go_upto_region 8 with fail
      rw [HW3.out]
      have hw32 : IntKind.i32.wrap (k : Int) = (k : Int) := by
        have e1 : IntKind.i32.min = -2147483648 := rfl
        have e2 : IntKind.i32.max = 2147483647 := rfl
        first | exact IntWalk.i32_in _ (by omega) | (unfold IntKind.wrap; simp; omega)
      have hg4 : w.heap.size + 1 < W3.heap.size := (Array.getElem?_eq_some_iff.1 HR3.out).1
      have hmb : w.heap.size < W3.heap.size := by omega
      cases hs : seen l (z0, z1, z2, z3) k with
      | true =>
        rw [hs] at hlk
        have HCE := Lib.hid (HCC.out hs)
        have c3 : W3.cell? ⟨w.heap.size + 1, k, none⟩ = some (.int .i32 (-1)) := by
          rw [cell_of_row W3 _ _ _ _ _ HR3.out, List.getElem?_toArray, List.getElem?_set_self (by rw [List.length_append, prevs_len, List.length_replicate]; omega)]
        have f3 : W3.frozen? ⟨w.heap.size + 1, k, none⟩ = false := by simp [World.frozen?, HR3.out]
        obtain ⟨W4, hW4⟩ : ∃ W4, W3.setCell ⟨w.heap.size + 1, k, none⟩ (.int .i32 cc) = W4 := ⟨_, rfl⟩
        have hbx4 := (show W4.heap[wr.heap.size]? = W3.heap[wr.heap.size]? from by rw [← hW4, heap_setCell_other _ _ _ _ (by simp; omega)]).trans hbx3
        have y0 : W4.cell? ⟨wr.heap.size, 0, none⟩ = some (.int .u8 (z0.toNat : Nat)) := by rw [cell_of_row W4 _ _ _ _ _ hbx4]; rfl
        have y1' : W4.cell? ⟨wr.heap.size, 1, none⟩ = some (.int .u8 (z1.toNat : Nat)) := by rw [cell_of_row W4 _ _ _ _ _ hbx4]; rfl
        have y2' : W4.cell? ⟨wr.heap.size, 2, none⟩ = some (.int .u8 (z2.toNat : Nat)) := by rw [cell_of_row W4 _ _ _ _ _ hbx4]; rfl
        have y3' : W4.cell? ⟨wr.heap.size, 3, none⟩ = some (.int .u8 (z3.toNat : Nat)) := by rw [cell_of_row W4 _ _ _ _ _ hbx4]; rfl
        have HRW : Hid (W4.heap[w.heap.size + 1]? = some (.cells (prevs l (k + 1) ++ List.replicate (n - (k + 1)) (Value.int .i32 0)).toArray 21 (0, 0))) := Lib.hid (by
          have h := heap_set HR3.out k (.int .i32 cc)
          rw [hW4, List.set_set, prevs_set l n k hkl cc (by rw [HFO.out]; exact HCE.out)] at h
          exact h)
        have HLW : Hid (LastAt W4 w.heap.size l k) := Lib.hid (HL3.out.keep (by rw [← hW4, heap_setCell_other _ _ _ _ (by simp)]))
        have HBW : Hid (Below w.heap.size w W4) := Lib.hid (by rw [← hW4]; exact Below.setCell (p := ⟨w.heap.size + 1, k, none⟩) HB3.out (by simp) _)
        have HW4 := Lib.hid hW4
        clear hW4 hbx3 hbx4 hs hg4 hmb
        go_upto_region 11 with fail
        rw [HW4.out]
        obtain ⟨w5, hmu, hl5, ht5⟩ := HLW.out.put (by omega)
        rw [HFO.out] at hmu
        simp only [keyOf4, fourV] at hmu
        have hg5 := ht5.grown
        have HRW5 : Hid (w5.heap[w.heap.size + 1]? = some (.cells (prevs l (k + 1) ++ List.replicate (n - (k + 1)) (Value.int .i32 0)).toArray 21 (0, 0))) := Lib.hid ((hg5.block _ (Array.getElem?_eq_some_iff.1 HRW.out).1 (by simp)).trans HRW.out)
        have HB5 : Hid (Below w.heap.size w w5) := Lib.hid (below_grown HBW.out hg5 HBW.out.size (fun g e => by injection e with e; omega))
        have HL5 := Lib.hid hl5
        clear hl5 ht5 hg5
        go_wp2_with fail
        exact ⟨⟨k + 1, by omega, by go_num, HRW5, HL5, HB5⟩, by simp [intOf]; omega⟩
      | false =>
        rw [hs] at hlk
        have HLS : Hid (-1 = lastAt l (four l k) k) := Lib.hid (by
          have h1 : ¬ 0 ≤ lastAt l (z0, z1, z2, z3) k := by simpa [seen] using hs
          rw [HFO.out]
          rcases lastAt_bounds l (z0, z1, z2, z3) k with h | h <;> omega)
        have HRW : Hid (W3.heap[w.heap.size + 1]? = some (.cells (prevs l (k + 1) ++ List.replicate (n - (k + 1)) (Value.int .i32 0)).toArray 21 (0, 0))) := Lib.hid (by
          rw [← prevs_set l n k hkl (-1) HLS.out]; exact HR3.out)
        have HLW := HL3
        have HBW := HB3
        clear hbx3 hs hg4 hmb
        obtain ⟨w5, hmu, hl5, ht5⟩ := HLW.out.put (by omega)
        rw [HFO.out] at hmu
        simp only [keyOf4, fourV] at hmu
        have hg5 := ht5.grown
        have HRW5 : Hid (w5.heap[w.heap.size + 1]? = some (.cells (prevs l (k + 1) ++ List.replicate (n - (k + 1)) (Value.int .i32 0)).toArray 21 (0, 0))) := Lib.hid ((hg5.block _ (Array.getElem?_eq_some_iff.1 HRW.out).1 (by simp)).trans HRW.out)
        have HB5 : Hid (Below w.heap.size w w5) := Lib.hid (below_grown HBW.out hg5 HBW.out.size (fun g e => by injection e with e; omega))
        have HL5 := Lib.hid hl5
        clear hl5 ht5 hg5
        go_wp2_with fail
        exact ⟨⟨k + 1, by omega, by go_num, HRW5, HL5, HB5⟩, by simp [intOf]; omega⟩
    · obtain rfl : k = n := by omega
      rw [Nat.sub_self, List.replicate_zero, List.append_nil] at HR
      clear HROW HB1
      go_wp2_with fail
      go_ret
      exact ⟨rfl, HR.out, HB.out⟩
end Go.Proofs.YtklkboplkobhgaaGreat

/- The finder's New. -/
namespace Go.Proofs.YtklkboplkobhgaaGreat
set_option maxRecDepth 100000
open Go.RowKit Go.Maps

/-- A finder that is ready. -/
structure Ready (w : World) (F : Nat) (A : Option Addr) (c : Nat) (d : List UInt8) (dict nice : Int) (mp B : Nat) : Prop where
  at_ : FinderAt w F A c d dict nice mp (.slice (some ⟨B, 0, none⟩) (d.length - 3) (d.length - 3))
  pairs : PairsAt w mp d (d.length - 1)
  fours : w.heap[B]? = some (.cells (prevs d (d.length - 3)).toArray 21 (0, 0))
theorem Ready.below {w w' : World} {F : Nat} {A : Option Addr} {c : Nat} {d : List UInt8} {dict nice : Int} {mp B : Nat} (h : Ready w F A c d dict nice mp B) (hb : Below w.heap.size w w') : Ready w' F A c d dict nice mp B :=
  ⟨h.at_.below hb, h.pairs.below hb, (hb.block _ (Array.getElem?_eq_some_iff.1 h.fours).1).trans h.fours⟩
def FNewDone (d : List UInt8) (dict nice : Int) (w : World) (e : Ending) (w' : World) : Prop := ∃ (Fp : Nat) (A : Option Addr) (c mp B : Nat), e = .returned (.tuple #[PF Fp, .int .i64 0]) ∧ Ready w' Fp A c d dict nice mp B ∧ Below w.heap.size w w'
set_option maxRecDepth 100000 in
theorem new_bad (v : Value) (dict nice : Int) (w : World) (h : dict < 1 ∨ nice < 2 ∨ 273 < nice) :
    Calls Tryz.prog 10 #[v, .int .i64 dict, .int .i64 nice] w fun e w' => e = .returned (.tuple #[.pointer none, .int .i64 1]) ∧ w = w' := by
  by_cases h1 : dict < 1
  · go_enter Tryz.func10, Tryz.ntmps10
    go_wp2_with fail
    go_ret2
    exact ⟨rfl, rfl⟩
  · by_cases h2 : nice < 2
    · go_enter Tryz.func10, Tryz.ntmps10
      go_wp2_with fail
      go_ret2
      exact ⟨rfl, rfl⟩
    · have h3 : 273 < nice := by omega
      go_enter Tryz.func10, Tryz.ntmps10
      go_wp2_with fail
      go_ret2
      exact ⟨rfl, rfl⟩
set_option maxRecDepth 100000 in
set_option maxHeartbeats 2000000 in
theorem New_any (A : Option Addr) (d : List UInt8) (c : Nat) (dict nice : Int) (w : World) (hB : Bytes w A d) (hc : d.length ≤ c) (hl : d.length ≤ 100000) (h1 : ¬ dict < 1) (h2 : ¬ nice < 2) (h3 : ¬ 273 < nice) :
    Calls Tryz.prog 10 #[.slice A d.length c, .int .i64 dict, .int .i64 nice] w (FNewDone d dict nice w) := by
  have hci : (d.length : Int) ≤ (c : Int) := by omega
  have hli : (d.length : Int) ≤ 100000 := by omega
  have HCL := Lib.hid (clone_any A d c w hB hc hl)
  have HL := Lib.hid hl
  clear hB hc hl
  go_enter Tryz.func10, Tryz.ntmps10
  go_wp2_with fail
  refine HCL.out.mono ?_
  rintro e w1 ⟨v, rfl, hown, hb1⟩
  obtain ⟨A', c', rfl, hc', hcm, hB'⟩ := hown.read
  have HB1 := Lib.hid hb1
  have HBY := Lib.hid hB'
  have HC' := Lib.hid hc'
  obtain ⟨W2, hW2⟩ : ∃ W2, w1.alloc (.cells #[.slice A' d.length c', .int .i64 dict, .int .i64 nice, .map none, .slice none 0 0] 57) = W2 := ⟨_, rfl⟩
  have hrow2 : W2.heap[w1.heap.size]? = some (.cells [.slice A' d.length c', .int .i64 dict, .int .i64 nice, .map none, .slice none 0 0].toArray 57 (0, 0)) := by rw [← hW2]; exact heap_alloc_last _ _
  have hb2 : Below w1.heap.size w1 W2 := by rw [← hW2]; exact (Below.refl _ _).alloc (Nat.le_refl _) _
  have hci' : (d.length : Int) ≤ (c' : Int) := by omega
  have HPP := Lib.hid (pairPlaces_any A' d c' (d.length - 1) W2 (hB'.below hb2) hc' HL.out rfl)
  have HW2 := Lib.hid hW2
  have HROW2 := Lib.hid hrow2
  have HB2 := Lib.hid hb2
  have f20 : W2.cell? ⟨w1.heap.size, 0, none⟩ = some (.slice A' d.length c') := by rw [cell_of_row W2 _ _ _ _ _ hrow2]; rfl
  clear hown hb1 hB' hc' hcm hW2 hrow2 hb2
  go_wp2_with fail
  rw [HW2.out]
  have hlt2 : Hid (w1.heap.size < W2.heap.size) := Lib.hid (Array.getElem?_eq_some_iff.1 HROW2.out).1
  clear f20
  refine HPP.out.mono ?_
  rintro e W3 ⟨rfl, hpr, hb3⟩
  have hrow3 := (hb3.block _ hlt2.out).trans HROW2.out
  have f30 : W3.frozen? ⟨w1.heap.size, 3, none⟩ = false := frozen_of_row _ _ _ _ _ hrow3
  obtain ⟨W4, hW4⟩ : ∃ W4, W3.setCell ⟨w1.heap.size, 3, none⟩ (.map (some W2.heap.size)) = W4 := ⟨_, rfl⟩
  have hrow4 := heap_set hrow3 3 (.map (some W2.heap.size))
  rw [hW4] at hrow4
  have hpr4 : PairsAt W4 W2.heap.size d (d.length - 1) := by rw [← hW4]; exact hpr.set _ _ hlt2.out
  have hb4 : Below w1.heap.size w1 W4 := by rw [← hW4]; exact (HB2.out.trans (hb3.mono (Nat.le_of_lt hlt2.out))).setCell (p := ⟨w1.heap.size, 3, none⟩) (Nat.le_refl _) _
  have f40 : W4.cell? ⟨w1.heap.size, 0, none⟩ = some (.slice A' d.length c') := by rw [cell_of_row W4 _ _ _ _ _ hrow4]; rfl
  have f3d : W3.cell? ⟨w1.heap.size, 3, none⟩ = some (.map none) := by rw [cell_of_row W3 _ _ _ _ _ hrow3]; rfl
  have f3c : W3.cell? ⟨w1.heap.size, 0, none⟩ = some (.slice A' d.length c') := by rw [cell_of_row W3 _ _ _ _ _ hrow3]; rfl
  have HSF := Lib.hid (sameFour_any A' d c' (d.length - 3) W4 (HBY.out.below hb4) HC'.out HL.out rfl)
  have HW4 := Lib.hid hW4
  have HROW4 := Lib.hid hrow4
  have HB4 := Lib.hid hb4
  have HPR4 := Lib.hid hpr4
  have h24 : Hid (W2.heap.size < W4.heap.size) := Lib.hid hpr4.lt
  clear hW4 hrow4 hb4 hpr4 hrow3 hpr hb3
  go_wp2_with fail
  rw [HW4.out]
  refine HSF.out.mono ?_
  rintro e W5 ⟨rfl, hfr, hb5⟩
  have hlt4 : w1.heap.size < W4.heap.size := (Array.getElem?_eq_some_iff.1 HROW4.out).1
  have hrow5 := (hb5.block _ hlt4).trans HROW4.out
  have f50 : W5.frozen? ⟨w1.heap.size, 4, none⟩ = false := frozen_of_row _ _ _ _ _ hrow5
  have f5d : W5.cell? ⟨w1.heap.size, 4, none⟩ = some (.slice none 0 0) := by rw [cell_of_row W5 _ _ _ _ _ hrow5]; rfl
  obtain ⟨W6, hW6⟩ : ∃ W6, W5.setCell ⟨w1.heap.size, 4, none⟩ (.slice (some ⟨W4.heap.size + 1, 0, none⟩) (d.length - 3 : Nat) (d.length - 3 : Nat)) = W6 := ⟨_, rfl⟩
  have hrow6 := heap_set hrow5 4 (.slice (some ⟨W4.heap.size + 1, 0, none⟩) (d.length - 3 : Nat) (d.length - 3 : Nat))
  rw [hW6] at hrow6
  have hb6 : Below w1.heap.size w1 W6 := by rw [← hW6]; exact (HB4.out.trans (hb5.mono (Nat.le_of_lt hlt4))).setCell (p := ⟨w1.heap.size, 4, none⟩) (Nat.le_refl _) _
  have hR : Ready W6 w1.heap.size A' c' d dict nice W2.heap.size (W4.heap.size + 1) := by
    refine ⟨⟨hrow6, HBY.out.below hb6, HC'.out, HL.out⟩, ?_, ?_⟩
    · rw [← hW6]; exact (HPR4.out.below hb5).set _ _ hlt2.out
    · rw [← hW6]; exact (heap_setCell_other _ _ _ _ (by show W4.heap.size + 1 ≠ w1.heap.size; omega)).trans hfr
  have HR := Lib.hid hR
  have HW6 := Lib.hid hW6
  have HB6 : Hid (Below w.heap.size w W6) := Lib.hid (HB1.out.trans (hb6.mono HB1.out.size))
  clear hW6 hrow6 hb6 hR hrow5 hfr hb5
  go_wp2_with fail
  rw [HW6.out]
  go_ret2
  exact ⟨_, _, _, _, _, rfl, HR.out, HB6.out⟩
end Go.Proofs.YtklkboplkobhgaaGreat

/- The finder's Best. -/
namespace Go.Proofs.YtklkboplkobhgaaGreat
set_option maxRecDepth 100000
open Go.RowKit

def bestV (d : List UInt8) (dict nice place most : Int) : Nat × Nat := if 0 ≤ place ∧ place < (d.length : Int) then bestOf d dict nice place.toNat most else (0, 0)
def BestDone (r : Nat × Nat) (w : World) (e : Ending) (w' : World) : Prop := e = .returned (.tuple #[.int .i64 (r.1 : Nat), .int .i64 (r.2 : Nat)]) ∧ Below w.heap.size w w'
theorem long4 {F : Nat} {A : Option Addr} {c : Nat} {d : List UInt8} {dict nice : Int} {mp B : Nat} {place lm : Nat} {w : World} (hR : Ready w F A c d dict nice mp B) (h4 : 4 ≤ lm) (hl : place + lm ≤ d.length) {b1 b2 : Nat} {W : World} (hb : Below w.heap.size w W) (hx1 : BoxAt b1 W (PF F)) (hx2 : BoxAt b2 W (.int .i64 (place : Nat))) :
    Calls Tryz.prog 71 #[PF F, .int .i64 (place : Nat), .int .i64 (lm : Nat), .func (.func 85) #[] #[PF b1, PF b2]] W (LongDone d place lm dict (chain d (four d place) place) W) := by
  have hW := hR.below hb
  exact longest_any F A c d dict nice mp _ place lm _ _ _ W hW.at_ hl (by omega) (fun x hx => (mem_chain.1 hx).1) (chain_falls _ _ _) (enters_of Tryz.func85 (by kernel_rfl) rfl)
    (four_seq Fence.wide 3 trivial rfl (by decide) F A c d dict nice mp B (d.length - 3) b1 b2 place W hW.at_ hW.fours hx1 hx2 (by omega) (by omega))
theorem long2 {F : Nat} {A : Option Addr} {c : Nat} {d : List UInt8} {dict nice : Int} {mp B : Nat} {place lm : Nat} {w : World} (hR : Ready w F A c d dict nice mp B) (h2 : 2 ≤ lm) (hl : place + lm ≤ d.length) {e : Ending} {W W0 : World} (hb : Below w.heap.size w W0)
    (hP : PairDone (places d (d.getD place 0) (d.getD (place + 1) 0) (d.length - 1)) place W0 e W) :
    ∃ (b1 b2 : Nat) (L2 : List Nat), e = .returned (.func (.func 87) #[] #[PF b1, PF b2]) ∧ Below w.heap.size w W ∧ (∀ z, z ∈ L2 ↔ z < place ∧ d.getD z 0 = d.getD place 0 ∧ d.getD (z + 1) 0 = d.getD (place + 1) 0) ∧
      Calls Tryz.prog 71 #[PF F, .int .i64 (place : Nat), .int .i64 (lm : Nat), .func (.func 87) #[] #[PF b1, PF b2]] W (LongDone d place lm dict L2 W) := by
  obtain ⟨b1, b2, A2, c2, h, rfl, hx1, hx2, hrd, hc2, hh, hlo, hhi, hb2⟩ := hP
  obtain ⟨hm, hf⟩ := pair_list (place := place) rfl rfl (by omega) hh hlo hhi
  have hbW : Below w.heap.size w W := hb.trans (hb2.mono hb.size)
  have hW := hR.below hbW
  have hlen := places_len d (d.getD place 0) (d.getD (place + 1) 0) (d.length - 1)
  have hsm := hR.at_.small
  refine ⟨b1, b2, _, rfl, hbW, hm, ?_⟩
  exact longest_any F A c d dict nice mp _ place lm _ _ _ W hW.at_ hl (by omega) (fun x hx => ((hm x).1 hx).1) hf (enters_of Tryz.func87 (by kernel_rfl) rfl)
    (pair_seq Fence.wide 3 trivial rfl (by decide) A2 c2 _ b1 b2 h W hrd hc2 (by omega) (fun x hx => by have := (mem_places.1 hx).1; omega) hx1 hx2 hh)
set_option maxRecDepth 100000 in
set_option maxHeartbeats 2000000 in
theorem Best_any (F : Nat) (A : Option Addr) (c : Nat) (d : List UInt8) (dict nice : Int) (mp B : Nat) (place most : Int) (w : World) (hR : Ready w F A c d dict nice mp B) :
    Calls Tryz.prog 53 #[PF F, .int .i64 place, .int .i64 most] w (BestDone (bestV d dict nice place most) w) := by
  have HH := Lib.hid (has_any F A c d dict nice mp _ place w hR.at_)
  have hli : (d.length : Int) ≤ 100000 := by have := hR.at_.small; omega
  unfold bestV
  by_cases h1 : 0 ≤ place ∧ place < (d.length : Int)
  case neg =>
    have hh : hasB d place = false := by
      unfold hasB
      cases h : (decide (0 ≤ place) && decide (place < (d.length : Int))) with
      | false => rfl
      | true => simp at h; exact absurd h h1
    rw [hh] at HH
    rw [if_neg h1]
    clear h1 hh hR
    go_enter Tryz.func53, Tryz.ntmps53
    go_wp2_with fail
    refine HH.out.mono ?_
    rintro e w1 ⟨rfl, rfl⟩
    go_wp2_with fail
    go_ret2
    exact ⟨rfl, Below.refl _ _⟩
  have hh : hasB d place = true := by unfold hasB; simp [h1.1, h1.2]
  rw [hh] at HH
  rw [if_pos h1]
  obtain ⟨p, rfl⟩ : ∃ p : Nat, place = (p : Int) := ⟨place.toNat, by omega⟩
  simp only [Int.toNat_natCast]
  have hpi : (p : Int) ≤ 100000 := by omega
  have hp2 : (p : Int) < (d.length : Int) := h1.2
  obtain ⟨X, hX⟩ : ∃ X : Int, (d.length : Int) - (p : Int) = X := ⟨_, rfl⟩
  obtain ⟨M, hM⟩ : ∃ M : Int, min (min nice most) X = M := ⟨_, rfl⟩
  obtain ⟨R, hRd⟩ : ∃ R, bestOf d dict nice p most = R := ⟨_, rfl⟩
  rw [hRd]
  have HBO : Hid (R = if (bestTo (fAt d p M.toNat) (depth p dict)).1 < 2 then (0, 0) else bestTo (fAt d p M.toNat) (depth p dict)) := Lib.hid (by
    rw [← hRd]
    unfold bestOf
    have e : lim d p (min nice most) = M.toNat := by unfold lim; rw [hX, hM]
    rw [e]; rfl)
  obtain ⟨f0, _, f2, _, _⟩ := hR.at_.cells
  have hM0 : M ≤ (d.length : Int) - (p : Int) := by omega
  have HR := Lib.hid hR
  have hXw : IntKind.i64.wrap X = X := IntWalk.i64_in _ (by omega)
  have hcase : (M = nice ∧ ¬ most < nice ∧ ¬ X < nice) ∨ (M = most ∧ most < nice ∧ ¬ X < most) ∨ (M = X ∧ most < nice ∧ X < most) ∨ (M = X ∧ ¬ most < nice ∧ X < nice) := by omega
  have HMX : Hid (M ≤ (d.length : Int) - (p : Int)) := Lib.hid hM0
  clear h1 hh hR hM hM0 hRd
  by_cases hM2 : M < 2
  · have hz : Hid ((bestTo (fAt d p M.toNat) (depth p dict)).1 < 2) := Lib.hid (by
      rcases (bestTo_is (fAt d p M.toNat) (depth p dict)).at_ with ⟨e, _⟩ | ⟨_, _, e, _⟩
      · omega
      · have h1 := eqLen_le d p (p - (bestTo (fAt d p M.toNat) (depth p dict)).2) M.toNat
        have e2 : eqLen d p (p - (bestTo (fAt d p M.toNat) (depth p dict)).2) M.toNat = (bestTo (fAt d p M.toNat) (depth p dict)).1 := e
        omega)
    have HRZ : Hid (R = (0, 0)) := Lib.hid (by rw [HBO.out, if_pos hz.out])
    clear HBO hz
    have b2 : decide (M < 2) = true := decide_eq_true hM2
    rcases hcase with ⟨rfl, a1, a2⟩ | ⟨rfl, a1, a2⟩ | ⟨rfl, a1, a2⟩ | ⟨rfl, a1, a2⟩
    all_goals
      go_enter Tryz.func53, Tryz.ntmps53
      go_wp2_with fail
      refine HH.out.mono ?_
      rintro e w1 ⟨rfl, rfl⟩
      go_wp2_with fail
      go_quiet (fail)
      go_wp2_with fail
      go_ret2
      rw [HRZ.out]
      exact ⟨rfl, below_drewN (Below.refl _ _) _⟩
  · obtain ⟨lm, rfl⟩ : ∃ lm : Nat, M = (lm : Int) := ⟨M.toNat, by omega⟩
    simp only [Int.toNat_natCast] at HBO
    have b2 : decide ((lm : Int) < 2) = false := decide_eq_false hM2
    have hlm : Hid (2 ≤ lm ∧ p + lm ≤ d.length) := Lib.hid (by have := HMX.out; omega)
    have hp3 : Hid (p + 1 < d.length) := Lib.hid (by have := hlm.out; omega)
    by_cases hM4 : 4 ≤ lm
    · have b4 : decide ((4 : Int) ≤ (lm : Int)) = true := decide_eq_true (by omega)
      have b4' : (4 : Int) ≤ (lm : Int) := by omega
      have H4 := Lib.hid hM4
      clear hM2 hM4
      rcases hcase with ⟨rfl, a1, a2⟩ | ⟨rfl, a1, a2⟩ | ⟨rfl, a1, a2⟩ | ⟨rfl, a1, a2⟩
      all_goals
        go_enter Tryz.func53, Tryz.ntmps53
        go_wp2_with fail
        refine HH.out.mono ?_
        rintro e w1 ⟨rfl, rfl⟩
        go_wp2_with fail
        go_quiet (fail)
        go_wp2_with fail
        refine (beforeFour_any F p _).mono ?_
        rintro e w1 ⟨b1, b2, rfl, hx1, hx2, _, _, hb1⟩
        have hbw := (below_drewN (Below.refl w.heap.size w) _).trans hb1
        have HB1 := Lib.hid hbw
        have HL4 := Lib.hid (long4 HR.out H4.out hlm.out.2 hbw hx1 hx2)
        clear hx1 hx2 hb1 hbw
        go_wp2_with fail
        refine HL4.out.mono ?_
        rintro e w2 ⟨n, k, rfl, hbest, hb2⟩
        have HBE := Lib.hid hbest
        have HB2 := Lib.hid (HB1.out.trans (hb2.mono HB1.out.size))
        clear hbest hb2
        by_cases hn4 : 4 ≤ n
        · have HRES : Hid ((if (bestTo (fAt d p lm) (depth p dict)).1 < 2 then (0, 0) else bestTo (fAt d p lm) (depth p dict)) = (n, k)) := Lib.hid (by
            have e := best_four HBE.out hn4
            rw [← e, if_neg (by show ¬ n < 2; omega)])
          have b5 : decide ((4 : Int) ≤ (n : Int)) = true := decide_eq_true (by omega)
          have b5' : (4 : Int) ≤ (n : Int) := by omega
          clear hn4
          go_wp2_with fail
          go_ret2
          rw [HBO.out, HRES.out]
          exact ⟨rfl, HB2.out⟩
        · have HNF := Lib.hid (no_four HBE.out (by omega))
          have b5 : decide ((4 : Int) ≤ (n : Int)) = false := decide_eq_false (by omega)
          have b5' : ¬ (4 : Int) ≤ (n : Int) := by omega
          clear hn4
          go_wp2_with fail
          refine (beforePair_any F A c d dict _ mp _ p _ (HR.out.below HB2.out).at_ (HR.out.below HB2.out).pairs hp3.out).mono ?_
          rintro e w3 hpd
          obtain ⟨c1, c2, L2, rfl, hb3, hmem, hlong⟩ := long2 (lm := 3) HR.out (by decide) (by have := hlm.out; have := H4.out; omega) HB2.out hpd
          have HB3 := Lib.hid hb3
          have HME := Lib.hid hmem
          have HLO := Lib.hid hlong
          clear hpd hb3 hmem hlong
          go_wp2_with fail
          refine HLO.out.mono ?_
          rintro e w4 ⟨n2, k2, rfl, hbest2, hb4⟩
          have HB4 : Hid (Below w.heap.size w w4) := Lib.hid (HB3.out.trans (hb4.mono HB3.out.size))
          have HRES := Lib.hid (best_pair HME.out (by decide) (by have := H4.out; omega) HNF.out hbest2)
          clear hbest2 hb4
          go_wp2_with fail
          go_ret2
          rw [HBO.out, ← HRES.out]
          exact ⟨rfl, HB4.out⟩
    · have b4 : decide ((4 : Int) ≤ (lm : Int)) = false := decide_eq_false (by omega)
      have b4' : ¬ (4 : Int) ≤ (lm : Int) := by omega
      clear hM2 hM4
      rcases hcase with ⟨rfl, a1, a2⟩ | ⟨rfl, a1, a2⟩ | ⟨rfl, a1, a2⟩ | ⟨rfl, a1, a2⟩
      all_goals
        go_enter Tryz.func53, Tryz.ntmps53
        go_wp2_with fail
        refine HH.out.mono ?_
        rintro e w1 ⟨rfl, rfl⟩
        go_wp2_with fail
        go_quiet (fail)
        go_wp2_with fail
        have HBQ : ∀ m, Hid (Below w.heap.size w (w.drewN m)) := fun m => Lib.hid (below_drewN (Below.refl _ _) m)
        refine (beforePair_any F A c d dict _ mp _ p _ (HR.out.below (HBQ _).out).at_ (HR.out.below (HBQ _).out).pairs hp3.out).mono ?_
        rintro e w3 hpd
        obtain ⟨c1, c2, L2, rfl, hb3, hmem, hlong⟩ := long2 (lm := lm) HR.out hlm.out.1 hlm.out.2 (HBQ _).out hpd
        have HB3 := Lib.hid hb3
        have HME := Lib.hid hmem
        have HLO := Lib.hid hlong
        clear hpd hb3 hmem hlong
        go_wp2_with fail
        refine HLO.out.mono ?_
        rintro e w4 ⟨n2, k2, rfl, hbest2, hb4⟩
        have HB4 : Hid (Below w.heap.size w w4) := Lib.hid (HB3.out.trans (hb4.mono HB3.out.size))
        have HRES := Lib.hid (best_pair HME.out hlm.out.1 (Nat.le_refl _) (fun j _ _ => eqLen_le _ _ _ _) hbest2)
        clear hbest2 hb4
        go_wp2_with fail
        go_ret2
        rw [HBO.out, ← HRES.out]
        exact ⟨rfl, HB4.out⟩
end Go.Proofs.YtklkboplkobhgaaGreat
