/- m[k] = append(m[k], x) by an entry of the map: the entry is looked up once, and stored into behind the append. -/
import Derived.Maps.OwnRows
import Derived.WideKeyEntry
import Derived.Test.YtnglkipjiojipaaRows
import Derived.Test.YtnglkipjiojipaaBase
namespace Go.Proofs.Ytnglkipjiojipaa
open Go.ChangeMaps Go.MapKept Go.ChangeShapes Go.RowKit
open Go.WideElems (Fit rd rg pl rd_val elemAt)
open Go.Maps (Keyed)
open Go.WideMaps (KeyLaw)

section
variable {H : Type} {P : Program} {w w' : World} {t k E e : TypeId} {R : Value → Option (DataW H × List MemPlace)} {b : Nat} {es es' : Array MapEntry} {clock clock' : Nat}

theorem key_place {l : List MapEntry} (hn : (l.map (·.key)).Nodup) {i j : Nat} {x y : MapEntry} (hx : l[i]? = some x) (hy : l[j]? = some y) (e : x.key = y.key) : i = j := by
  have hi := (List.getElem?_eq_some_iff.1 hx).1
  refine (List.getElem?_inj (l := l.map (·.key)) (by simpa using hi) hn).1 ?_
  simp [hx, hy, e]
theorem key_entry {l : List MapEntry} (hn : (l.map (·.key)).Nodup) {x y : MapEntry} (hx : x ∈ l) (hy : y ∈ l) (e : x.key = y.key) : x = y := by
  obtain ⟨i, hi⟩ := List.getElem?_of_mem hx
  obtain ⟨j, hj⟩ := List.getElem?_of_mem hy
  have := key_place hn hi hj e
  subst this
  rw [hi] at hj
  exact Option.some.inj hj
theorem setBlock_map_inj (hb : w.heap[b]? = some (.map es clock)) {a a' : Array MapEntry} {c c' : Nat} (h : (Result.ok () (setBlock w b (.map a c)) : Result Unit) = .ok () (setBlock w b (.map a' c'))) : a = a' ∧ c = c' := by
  have h1 : setBlock w b (.map a c) = setBlock w b (.map a' c') := by injection h
  have h2 := heap_setBlock_same hb (.map a c)
  rw [h1, heap_setBlock_same hb] at h2
  simp at h2
  exact ⟨h2.1.symm, h2.2.symm⟩
/-- What a store does to a map's block hangs on that block alone. -/
theorem update_local (K : KeyLaw P k) (ht : P.underlying t = some (.map k e)) (F : Fit P k R es clock) (hb : w.heap[b]? = some (.map es clock)) (hb' : w'.heap[b]? = some (.map es clock)) {key val : Value} {kl : Lit} (hkey : keyOf P k key = some kl)
    (h : (Instr.mapUpdate t (.map (some b)) key val).run P w = .ok () (setBlock w b (.map es' clock'))) : (Instr.mapUpdate t (.map (some b)) key val).run P w' = .ok () (setBlock w' b (.map es' clock')) := by
  obtain ⟨_, _, s3⟩ := F.stamped
  rcases K.find w hkey es.toList F.keys with ⟨h1, h2⟩ | ⟨j, e0, h1, h2, h3⟩
  · have e1 : (Instr.mapUpdate t (.map (some b)) key val).run P w = .ok () (setBlock w b (.map (es.push ⟨key, val, clock⟩) (clock + 1))) := by
      simp [Instr.mapUpdate, run_underlying ht, MapKept.run_getObj_map hb, K.check w false hkey, h1, MapKept.run_setObj_map _ hb, Result.andThen, setBlock]
    obtain ⟨rfl, rfl⟩ := setBlock_map_inj hb (h.symm.trans e1)
    rcases K.find w' hkey es.toList F.keys with ⟨g1, g2⟩ | ⟨j', e0', g1, g2, g3⟩
    · simp [Instr.mapUpdate, run_underlying ht, MapKept.run_getObj_map hb', K.check w' false hkey, g1, MapKept.run_setObj_map _ hb', Result.andThen, setBlock]
    · exact absurd g3 (h2 _ (List.mem_of_getElem? g2))
  · have hj : es[j]? = some e0 := by simpa using h2
    have e1 : (Instr.mapUpdate t (.map (some b)) key val).run P w = .ok () (setBlock w b (.map (es.modify j (fun e' => { e' with key := key, val := val })) clock)) := by
      simp [Instr.mapUpdate, run_underlying ht, MapKept.run_getObj_map hb, K.check w false hkey, h1, hj, h3, K.stays w hkey, MapKept.run_setObj_map _ hb, Result.andThen, setBlock]
    obtain ⟨rfl, rfl⟩ := setBlock_map_inj hb (h.symm.trans e1)
    rcases K.find w' hkey es.toList F.keys with ⟨g1, g2⟩ | ⟨j', e0', g1, g2, g3⟩
    · exact absurd h3 (g2 _ (List.mem_of_getElem? h2))
    · have := key_place s3 h2 g2 (h3.trans g3.symm)
      subst this
      rw [h2] at g2
      obtain rfl := Option.some.inj g2
      simp [Instr.mapUpdate, run_underlying ht, MapKept.run_getObj_map hb', K.check w' false hkey, g1, hj, h3, K.stays w' hkey, MapKept.run_setObj_map _ hb', Result.andThen, setBlock]
theorem look_local (K : KeyLaw P k) (ht : P.underlying t = some (.map k e)) {z : Value} (hz : ∀ u : World, (zeroValue e).run P u = .ok z u) (F : Fit P k R es clock) (hb : w.heap[b]? = some (.map es clock)) (hb' : w'.heap[b]? = some (.map es clock)) {key v : Value} {kl : Lit} (hkey : keyOf P k key = some kl)
    (h : (Instr.lookup t (.map (some b)) key false).run P w = .ok v w) : (Instr.lookup t (.map (some b)) key false).run P w' = .ok v w' := by
  obtain ⟨_, _, s3⟩ := F.stamped
  rcases K.find w hkey es.toList F.keys with ⟨h1, h2⟩ | ⟨j, e0, h1, h2, h3⟩
  · have e1 : (Instr.lookup t (.map (some b)) key false).run P w = .ok z w := by
      simp [Instr.lookup, run_underlying ht, MapKept.run_getObj_map hb, K.check w _ hkey, h1, hz, Result.andThen]
    rw [e1] at h
    obtain rfl : z = v := by injection h
    rcases K.find w' hkey es.toList F.keys with ⟨g1, g2⟩ | ⟨j', e0', g1, g2, g3⟩
    · simp [Instr.lookup, run_underlying ht, MapKept.run_getObj_map hb', K.check w' _ hkey, g1, hz, Result.andThen]
    · exact absurd g3 (h2 _ (List.mem_of_getElem? g2))
  · have e1 : (Instr.lookup t (.map (some b)) key false).run P w = .ok e0.val w := by
      simp [Instr.lookup, run_underlying ht, MapKept.run_getObj_map hb, K.check w _ hkey, h1, Result.andThen]
    rw [e1] at h
    obtain rfl : e0.val = v := by injection h
    rcases K.find w' hkey es.toList F.keys with ⟨g1, g2⟩ | ⟨j', e0', g1, g2, g3⟩
    · exact absurd h3 (g2 _ (List.mem_of_getElem? h2))
    · have := key_place s3 h2 g2 (h3.trans g3.symm)
      subst this
      rw [h2] at g2
      obtain rfl := Option.some.inj g2
      simp [Instr.lookup, run_underlying ht, MapKept.run_getObj_map hb', K.check w' _ hkey, g1, Result.andThen]
theorem setBlock_twice (w : World) (b : Nat) (o o' : Obj) : setBlock (setBlock w b o) b o' = setBlock w b o' := by
  simp [setBlock]
variable {base n : Nat} {q : IntKind} {D : DataW H}
theorem groups_entry (h : w.ownsGroups (H := H) P k base e q b n D) (K : KeyLaw P k) (ht : P.underlying t = some (.map k E)) (hz : ∀ u : World, (zeroValue E).run P u = .ok (.slice none 0 0) u) (hn : n < maxLen) {key : Value} {kl : Lit} (hkey : keyOf P k key = some kl) :
    ∃ (v : Value) (zs : List Int) (st : Nat) (w1 : World), (Instr.mapEntry t (.map (some b)) key).run P w = .ok (.tuple #[v, goInt st]) w1 ∧ w.grownBy w1 (some b) ∧ D.atKey kl .nil = rowDatum q v zs ∧ w1.ownsInts base e q v zs ∧ zs.length ≤ n ∧
      ∀ (w2 : World) (v' : Value) (zs' : List Int), w1.grownBy w2 v.ownBlock → w2.ownsInts base e q v' zs' → zs'.length ≤ n + 1 → (v'.ownBlock = v.ownBlock ∨ ∃ g, v'.ownBlock = some g ∧ w.heap.size ≤ g) →
        ∃ w3, (Instr.entryStore t (.map (some b)) (goInt st) v').run P w2 = .ok () w3 ∧ w3.ownsGroups (H := H) P k base e q b (n + 1) (D.put kl (rowDatum q v' zs')) ∧ w2.grownBy w3 (some b) := by
  obtain ⟨es, clock, hb, F, hs, rfl, hbb, hlen, hap⟩ := h
  have hblt : b < w.heap.size := (Array.getElem?_eq_some_iff.1 hb).1
  obtain ⟨_, _, s3⟩ := F.stamped
  obtain ⟨v0, st, es1, clock1, hrun, hv0, hstore⟩ := WideElems.entry_then_store K ht hz hb F hkey
  have hg1 : w.grownBy (setBlock w b (.map es1 clock1)) (some b) := ⟨rfl, rfl, rfl, by simp [setBlock], fun i _ hi => heap_setBlock_other hb _ (fun e1 => hi (by rw [e1]))⟩
  -- what lies at the key, and what it owns
  have hboth : ∃ zs, (DataW.map ((es.toList.map (rg P k (rowElem (H := H) w base e q))).foldr DataW.insert [])).atKey kl .nil = rowDatum q v0 zs ∧ w.ownsInts base e q v0 zs ∧ zs.length ≤ n ∧
      (∀ x ∈ es.toList, x.key ≠ key → x.val.ownBlock = none ∨ x.val.ownBlock ≠ v0.ownBlock) ∧ v0.ownBlock ≠ some b := by
    rcases Maps.fit_look false (Keyed.of_law K) ht (hz w) hb F hkey with ⟨_, hno, hat⟩ | ⟨e0, y, hm0, h3, _, hR, hat, _⟩
    · rcases hv0 with ⟨e0, he0, hk0, _⟩ | ⟨_, rfl⟩
      · exact absurd hk0 (hno e0 he0)
      · exact ⟨[], hat _, World.ownsInts_nil _ _ _ _, Nat.zero_le _, fun x _ _ => by cases x.val.ownBlock <;> simp [Value.ownBlock], by simp [Value.ownBlock]⟩
    · rcases hv0 with ⟨e1, he1, hk1, rfl⟩ | ⟨hno, _⟩
      · obtain rfl := key_entry s3 hm0 he1 (h3.trans hk1.symm)
        obtain ⟨zs, ho, rfl⟩ := rowElem_inv hR
        exact ⟨zs, hat _, ho, hlen e0 hm0 zs ho, fun x hx hne => hap x hx e0 hm0 (by rw [h3]; exact hne), fun e1 => by have := (ho.1.lt b e1).1; omega⟩
      · exact absurd h3 (hno e0 hm0)
  obtain ⟨zs, hat, hoi, hzl, hapart, hvb⟩ := hboth
  have hback := groups_back (Keyed.of_law K) ht hb F hs hn hbb hlen hap hkey hapart hvb
  have hne0 : v0.ownBlock = none ∨ v0.ownBlock ≠ some b := .inr hvb
  refine ⟨v0, zs, st, _, hrun, hg1, hat, hoi.kept hg1 hne0, hzl, fun w2 v' zs' hg hown hl hloc => ?_⟩
  have hb1 : (setBlock w b (.map es1 clock1)).heap[b]? = some (.map es1 clock1) := heap_setBlock_same hb _
  have hsz1 : (setBlock w b (.map es1 clock1)).heap.size = w.heap.size := by simp [setBlock]
  have hb2 : w2.heap[b]? = some (.map es1 clock1) := (hg.block b (by rw [hsz1]; exact hblt) (fun e1 => hvb e1.symm)).trans hb1
  obtain ⟨es', clock', hst, hup⟩ := hstore w2 v' hb2
  -- the world behind the append, had the entry not been laid
  have hbR : (setBlock w2 b (.map es clock)).heap[b]? = some (.map es clock) := heap_setBlock_same hb2 _
  have hgR : w.grownBy (setBlock w2 b (.map es clock)) v0.ownBlock := by
    refine ⟨hg.os, hg.tape, hg.output, ?_, fun i hi hne => ?_⟩
    · have := hg.size; rw [hsz1] at this; simpa [setBlock] using this
    · by_cases hib : i = b
      · subst hib; rw [hbR, hb]
      · rw [heap_setBlock_other hb2 _ hib, hg.block i (by rw [hsz1]; exact hi) hne, heap_setBlock_other hb _ hib]
  have hgR2 : w2.grownBy (setBlock w2 b (.map es clock)) (some b) := ⟨rfl, rfl, rfl, by simp [setBlock], fun i _ hi => heap_setBlock_other hb2 _ (fun e1 => hi (by rw [e1]))⟩
  have hvb' : v'.ownBlock = none ∨ v'.ownBlock ≠ some b := by
    cases hv' : v'.ownBlock with
    | none => exact .inl rfl
    | some g =>
      refine .inr fun e1 => ?_
      have := (hown.1.lt g hv').1
      cases e1
      omega
  obtain ⟨wu, hu1, hu2, _⟩ := hback _ v' zs' hgR (hown.kept hgR2 hvb') hl hloc
  have hu3 := update_local K ht F hb hbR hkey hup
  rw [hu1, setBlock_twice] at hu3
  have hu4 : wu = setBlock w2 b (.map es' clock') := by injection hu3
  subst hu4
  exact ⟨_, hst, hu2, ⟨rfl, rfl, rfl, by simp [setBlock], fun i _ hi => heap_setBlock_other hb2 _ (fun e1 => hi (by rw [e1]))⟩⟩
end
end Go.Proofs.Ytnglkipjiojipaa
