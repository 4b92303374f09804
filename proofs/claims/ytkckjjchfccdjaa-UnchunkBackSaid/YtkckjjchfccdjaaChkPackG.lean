/- Chunks: Pack, of options that are fine. -/
import Derived.Test.YtkckjjchfccdjaaMg32
namespace Go.Proofs.Ytkckjjchfccdjaa
set_option maxRecDepth 100000
open Go.RowKit Go.Shelf
attribute [local go_sem] Oper.semAt_some

theorem packGo_F (k : PkS) (F : Nat) : ∀ (l : List (Nat × Nat)) (z : CodS × Bool), packGo { k with F := F } l z = packGo k l z
  | [], _ => rfl
  | x :: l, z => by
    have h := packGo_F k F l (chunkOf k x.1 x.2 z.1 z.2).2
    show ((chunkOf k x.1 x.2 z.1 z.2).1 ++ (packGo { k with F := F } l (chunkOf k x.1 x.2 z.1 z.2).2).1, (packGo { k with F := F } l (chunkOf k x.1 x.2 z.1 z.2).2).2) = _
    rw [h]; rfl
def PackDone (w : World) (l : List UInt8) (e : Ending) (w' : World) : Prop := ∃ v, e = .returned (.tuple #[v, .int .i64 0]) ∧ Own w.heap.size w' v l ∧ Below w.heap.size w w'
theorem fineB_of {k : PkS} {o : Value} (h : PkO k o) : fineB (k.lc : Nat) (k.lp : Nat) (k.pb : Nat) k.nice k.chunk k.dict = true := by
  have h1 := h.lc; have h2 := h.lp; have h3 := h.pb; have h4 := h.lclp; have h5 := h.nice; have h6 := h.chunk; have h7 := h.dict
  unfold fineB permB
  rw [decide_eq_true (by omega), decide_eq_true ⟨h5, h6, h7⟩]; rfl
theorem Pk.isCells {w : World} {p : Nat} {k : PkS} {s : CodS} {had : Bool} {Y : List Nat} (h : Pk w p k s had Y) : ∀ i ∈ p :: Y, ∃ cs t x, w.heap[i]? = some (.cells cs t x) := by
  obtain ⟨cv, h1, h2⟩ := h.ex
  intro i hi
  rcases List.mem_cons.1 hi with rfl | hi
  · exact ⟨_, _, _, h1⟩
  · cases s with
    | none => obtain ⟨_, rfl⟩ := h2; cases hi
    | some s =>
      obtain ⟨C, L, _, rfl, hc⟩ := h2
      simp only [List.mem_cons, List.not_mem_nil, or_false] at hi
      rcases hi with rfl | rfl
      · obtain ⟨T, hT, _⟩ := hc.mod.box; exact ⟨_, _, _, hT⟩
      · obtain ⟨T, hT, _⟩ := hc.mod.lits; exact ⟨_, _, _, hT⟩
theorem Own.isCells {base : Nat} {W : World} {v : Value} {l : List UInt8} (h : Own base W v l) {j : Nat} {o : Obj} (hj : v.ownBlock = some j) (ho : W.heap[j]? = some o) : o.isCells = true := by
  rcases h with ⟨_, ⟨rfl, _⟩ | ⟨g', cap', cur, rfl, _, h4, _⟩⟩
  · cases hj
  · have e : g' = j := by simpa [Value.ownBlock] using hj
    subst e
    rw [ho] at h4; injection h4 with h4; subst h4; rfl
theorem keepsOthers_only {X : List Nat} {a b : World} (h : Only X a b) (hX : ∀ i ∈ X, ∃ cs t x, a.heap[i]? = some (.cells cs t x)) : KeepsOthers a b := by
  refine ⟨h.size, fun j o hj ho => ?_⟩
  have hlt : j < a.heap.size := (Array.getElem?_eq_some_iff.1 hj).1
  refine (h.block j hlt (fun hi => ?_)).trans hj
  obtain ⟨cs, t, x, hc⟩ := hX j hi
  rw [hj] at hc; injection hc with hc; subst hc; cases ho
theorem Pk.off {w : World} {p : Nat} {k : PkS} {s : CodS} {had : Bool} {Y : List Nat} (h : Pk w p k s had Y) {j : Nat} {cs : Array Value} {t : TypeId} {x : Nat × Nat} (hj : w.heap[j]? = some (.cells cs t x)) (h0 : t ≠ 58) (h1 : t ≠ 121) (h2 : t ≠ 171) : j ∉ p :: Y := by
  obtain ⟨cv, hP, hC⟩ := h.ex
  intro hi
  rcases List.mem_cons.1 hi with rfl | hi
  · unfold PkAt at hP
    rw [hj] at hP; injection hP with hP; injection hP with _ e _; exact h0 e
  · exact hC.apart hj h1 h2 hi
theorem Own.ne {base : Nat} {W : World} {v : Value} {l : List UInt8} (h : Own base W v l) {j : Nat} {cs : Array Value} {t : TypeId} {x : Nat × Nat} (hj : W.heap[j]? = some (.cells cs t x)) (ht : t ≠ 5) : v.ownBlock ≠ some j := by
  intro he
  rcases h with ⟨_, ⟨rfl, _⟩ | ⟨g', cap', cur, rfl, _, h4, _⟩⟩
  · cases he
  · have e : g' = j := by simpa [Value.ownBlock] using he
    subst e
    rw [h4] at hj; injection hj with hj; injection hj with _ e2 _; exact ht e2.symm
/-- Between two parts. -/
structure PackI (w2 W4 : World) (q bP bO b1 b2 : Nat) (k : PkS) (pre : List (Nat × Nat)) (W : World) : Prop where
  ex : ∃ s had Y v, Pk W q k s had Y ∧ (∀ i ∈ Y, w2.heap.size ≤ i) ∧ W.heap[bO]? = some (.cells #[v] 22 (0, 0)) ∧ Own w2.heap.size W v (packGo k pre (none, false)).1 ∧ (packGo k pre (none, false)).2 = (s, had)
  box : W.heap[bP]? = some (.cells #[PF q] 56 (0, 0))
  n1 : W.heap[b1]? = W4.heap[b1]?
  n2 : W.heap[b2]? = W4.heap[b2]?
  below : Below w2.heap.size w2 W
  lt : b1 < W.heap.size ∧ b2 < W.heap.size
theorem PackI.alloc {w2 W4 : World} {q bP bO b1 b2 : Nat} {k : PkS} (pre : List (Nat × Nat)) (W : World) (o : Obj) (h : PackI w2 W4 q bP bO b1 b2 k pre W) : PackI w2 W4 q bP bO b1 b2 k pre (W.alloc o) := by
  obtain ⟨s, had, Y, v, h1, h2, h3, h4, h5⟩ := h.ex
  have hb : Below W.heap.size W (W.alloc o) := (Below.refl _ _).alloc (Nat.le_refl _) _
  have up : ∀ {b : Nat} {o' : Obj}, W.heap[b]? = some o' → (W.alloc o).heap[b]? = some o' := fun h => (Below.heap_alloc _ _ _ (Array.getElem?_eq_some_iff.1 h).1).trans h
  exact ⟨⟨s, had, Y, v, h1.below hb, h2, up h3, h4.alloc _, h5⟩, up h.box, (Below.heap_alloc _ _ _ h.lt.1).trans h.n1, (Below.heap_alloc _ _ _ h.lt.2).trans h.n2, h.below.alloc h.below.size _, by have := h.lt; simp; omega⟩
theorem PackI.put {w2 W4 : World} {q bP bO b1 b2 : Nat} {k : PkS} (hw : w2.heap.size ≤ W4.heap.size) (h12 : b1 < W4.heap.size ∧ b2 < W4.heap.size) (pre : List (Nat × Nat)) (W : World) (l : Nat) (o o' : Obj) (h : PackI w2 W4 q bP bO b1 b2 k pre W) (hl : W4.heap.size ≤ l) (hlo : W.heap[l]? = some o) (hoc : o.isCells = false) : PackI w2 W4 q bP bO b1 b2 k pre (W.putObj l o') := by
  obtain ⟨s, had, Y, v, h1, h2, h3, h4, h5⟩ := h.ex
  have ne : ∀ {i : Nat}, (∃ cs t x, W.heap[i]? = some (.cells cs t x)) → i ≠ l := fun ⟨cs, t, x, hc⟩ e => by
    subst e; rw [hlo] at hc; injection hc with hc; subst hc; cases hoc
  have up : ∀ {i : Nat}, i ≠ l → (W.putObj l o').heap[i]? = W.heap[i]? := fun e => World.putObj_heap_other e
  refine ⟨⟨s, had, Y, v, h1.keep (fun i hi => up (ne (h1.isCells i hi))), h2, (up (ne ⟨_, _, _, h3⟩)).trans h3, h4.keepC (fun g hg => up ?_), h5⟩, (up (ne ⟨_, _, _, h.box⟩)).trans h.box, (up (by omega)).trans h.n1, (up (by omega)).trans h.n2, ?_, by simpa [World.putObj] using h.lt⟩
  · intro e; subst e
    have := h4.isCells hg hlo
    rw [hoc] at this; cases this
  · exact h.below.grown (grownBy_putObj' W l o') h.below.size (fun k e => by cases e; omega)
set_option maxRecDepth 100000 in
set_option maxHeartbeats 4000000 in
theorem pack_good (k : PkS) (o : Value) (w : World) (ho : PkO k o) (hB : Bytes w k.A k.D) (hA : ∀ a, k.A = some a → a.block < w.heap.size) (hc : k.D.length ≤ k.cD) (hl : k.D.length ≤ 100000) :
    Calls Try.prog 9 #[.slice k.A k.D.length k.cD, o] w (PackDone w (packB k)) := by
  have HFB := fineB_of ho
  rw [ho.val]
  obtain ⟨A, D, cD, lc, lp, pb, nice, chunk, block, check, chain, dict, F⟩ := k
  simp only at HFB hB hA hc hl ⊢
  obtain ⟨k, hk⟩ : ∃ k : PkS, (⟨A, D, cD, lc, lp, pb, nice, chunk, block, check, chain, dict, F⟩ : PkS) = k := ⟨_, rfl⟩
  have HO : Hid (lc ≤ 4 ∧ lp ≤ 4 ∧ pb ≤ 4 ∧ lc + lp ≤ 4 ∧ (2 ≤ nice ∧ nice ≤ 273) ∧ (1 ≤ chunk ∧ chunk ≤ 65536) ∧ 4096 ≤ dict ∧ dict ≤ 67108864) := Lib.hid ⟨ho.lc, ho.lp, ho.pb, ho.lclp, ho.nice, ho.chunk, ho.dict⟩
  rw [hk]
  obtain ⟨W, hW⟩ : ∃ W, ((w.alloc (.cells #[.int .i64 (lc : Nat), .int .i64 (lp : Nat), .int .i64 (pb : Nat), .int .i64 nice, .int .i64 chunk, .int .i64 block, .int .i64 check, chain, .int .u32 (dict : Nat)] 33)).alloc (.cells #[.slice none 0 0] 22)).alloc (.cells #[.int .i64 0] 24) = W := ⟨_, rfl⟩
  obtain ⟨r0, r1, r2, hb, hs⟩ := packBoxes (vs := optRow lc lp pb nice chunk block check chain dict) hW
  have HF := Lib.hid (fine_any lc lp pb nice chunk block check chain dict W)
  rw [HFB] at HF
  have HCE : Hid (∀ W', Below W.heap.size W W' → W'.cell? ⟨w.heap.size, 0, none⟩ = some (.int .i64 (lc : Nat)) ∧ W'.cell? ⟨w.heap.size, 1, none⟩ = some (.int .i64 (lp : Nat)) ∧ W'.cell? ⟨w.heap.size, 2, none⟩ = some (.int .i64 (pb : Nat)) ∧ W'.cell? ⟨w.heap.size, 3, none⟩ = some (.int .i64 nice) ∧ W'.cell? ⟨w.heap.size, 4, none⟩ = some (.int .i64 chunk) ∧ W'.cell? ⟨w.heap.size, 5, none⟩ = some (.int .i64 block) ∧ W'.cell? ⟨w.heap.size, 6, none⟩ = some (.int .i64 check) ∧ W'.cell? ⟨w.heap.size, 7, none⟩ = some chain ∧ W'.cell? ⟨w.heap.size, 8, none⟩ = some (.int .u32 (dict : Nat))) := Lib.hid (fun W' hb' => by
    have r := (hb'.block _ (Array.getElem?_eq_some_iff.1 r0).1).trans r0
    refine ⟨?_, ?_, ?_, ?_, ?_, ?_, ?_, ?_, ?_⟩ <;> (rw [cell_of_row W' _ _ _ _ _ r]; rfl))
  obtain ⟨c0, c1, c2, c3, c4, c5, c6, c7, c8⟩ := HCE.out W (Below.refl _ _)
  have HR : Hid (W.heap[w.heap.size + 1]? = some (.cells #[.slice none 0 0] 22 (0, 0)) ∧ W.heap[w.heap.size + 1 + 1]? = some (.cells #[.int .i64 0] 24 (0, 0))) := Lib.hid ⟨r1, r2⟩
  have HNEW := Lib.hid (fun (W' : World) (hb' : Below w.heap.size w W') => New_any A D cD (dict : Nat) nice W' (hB.below hb') hc hl (by have := HO.out; omega) (by have := HO.out; omega) (by have := HO.out; omega))
  have HW := Lib.hid hW
  have HB := Lib.hid hb
  have HK := Lib.hid hk
  have HBY := Lib.hid (And.intro hB (And.intro hA (And.intro hc hl)))
  have hdi : (dict : Int) ≤ 67108864 := by have := HO.out; omega
  have hli : (D.length : Int) ≤ 100000 := by omega
  clear hW hb hs r0 r1 r2 HFB ho hk hB hA hc hl
  refine (callsIn_wide (n := 6)).1 ?_
  refine callsIn_of_wp_marks Try.func9 rfl trivial ?_ rfl
  simp only [Try.ntmps9, List.size_toArray, List.length_cons, List.length_nil, Nat.reduceAdd, Nat.reduceSub, Array.replicate_succ, Array.replicate_zero, List.push_toArray, List.append_toArray, List.nil_append, List.cons_append]
  gi_wp2_with fail
  rw [HW.out]
  refine ⟨trivial, (callsIn_wide.2 HF.out).mono ?_⟩
  rintro e w1 ⟨rfl, hb1⟩
  obtain ⟨c0, c1, c2, c3, c4, c5, c6, c7, c8⟩ := HCE.out w1 hb1
  have HB1 := Lib.hid (HB.out.trans (hb1.mono HB.out.size))
  have HBW1 := Lib.hid hb1
  clear hb1
  gi_wp2_with fail
  refine ⟨trivial, (callsIn_wide.2 (HNEW.out w1 HB1.out)).mono ?_⟩
  rintro e w2 ⟨F2, AF, cF, mp, B, rfl, hRd, hb2⟩
  clear c0 c1 c2 c3 c4 c5 c6 c7 c8
  obtain ⟨c0, c1, c2, c3, c4, c5, c6, c7, c8⟩ := HCE.out w2 (HBW1.out.trans (hb2.mono HBW1.out.size))
  have HB2 := Lib.hid (HB1.out.trans (hb2.mono HB1.out.size))
  have HBW2 := Lib.hid (HBW1.out.trans (hb2.mono HBW1.out.size))
  have HRD := Lib.hid hRd
  clear hb2 hRd
  have HPT := Lib.hid (fun W => parts_any D.length chunk.toNat W)
  rw [show ((chunk.toNat : Nat) : Int) = chunk by have := HO.out; omega] at HPT
  obtain ⟨W3, hW3⟩ : ∃ W3, ((w2.alloc (.cells #[.slice A D.length cD, .int .i64 (lc : Nat), .int .i64 (lp : Nat), .int .i64 (pb : Nat), .int .i64 nice, .int .i64 chunk, .int .i64 block, .int .i64 check, chain, .int .u32 (dict : Nat), PF F2, .pointer none, .bool false] 58)).alloc (.cells #[.pointer (some ⟨w2.heap.size, 0, none⟩)] 56)).alloc (.cells #[.slice none 0 0] 22) = W3 := ⟨_, rfl⟩
  obtain ⟨k2, hk2⟩ : ∃ k2 : PkS, (⟨A, D, cD, lc, lp, pb, nice, chunk, block, check, chain, dict, F2⟩ : PkS) = k2 := ⟨_, rfl⟩
  obtain ⟨q0, q1, q2, hb3, hs3⟩ := packBoxes (vs := pkRow ⟨A, D, cD, lc, lp, pb, nice, chunk, block, check, chain, dict, F2⟩ (.pointer none) false) hW3
  rw [hk2] at q0
  obtain ⟨_, _, _, _, d4, _, _, _, _⟩ := HCE.out W3 (HBW2.out.trans (hb3.mono HBW2.out.size))
  rw [← hW3] at d4
  have HW3 := Lib.hid hW3
  have HB3 := Lib.hid hb3
  have HQ : Hid (PkAt W3 w2.heap.size k2 (.pointer none) false ∧ W3.heap[w2.heap.size + 1]? = some (.cells #[PF w2.heap.size] 56 (0, 0)) ∧ W3.heap[w2.heap.size + 1 + 1]? = some (.cells #[.slice none 0 0] 22 (0, 0)) ∧ W3.heap.size = w2.heap.size + 1 + 1 + 1) := Lib.hid ⟨q0, q1, q2, hs3⟩
  have HK2 := Lib.hid hk2
  clear hW3 hb3 q0 q1 q2 hs3 hk2
  gi_wp2_with fail
  rw [HW3.out]
  refine ⟨trivial, (callsIn_wide.2 (HPT.out W3)).mono ?_⟩
  rintro e W4 ⟨rfl, hW4⟩
  clear d4 c0 c1 c2 c3 c4 c5 c6 c7 c8
  obtain ⟨q, hq⟩ : ∃ q, w2.heap.size = q := ⟨_, rfl⟩
  obtain ⟨bP, hbP⟩ : ∃ b, q + 1 = b := ⟨_, rfl⟩
  obtain ⟨bO, hbO⟩ : ∃ b, bP + 1 = b := ⟨_, rfl⟩
  obtain ⟨b1, hb1⟩ : ∃ b, W3.heap.size = b := ⟨_, rfl⟩
  obtain ⟨b2, hb2⟩ : ∃ b, b1 + 1 = b := ⟨_, rfl⟩
  rw [hb1, hb2, hq, hbP, hbO]
  gi_wp2_with fail
  have hx1 : W4.heap[b1]? = some (.cells #[.int .i64 (D.length : Nat)] 3 (0, 0)) := by
    rw [← hW4, ← hb1]; exact (Below.heap_alloc _ _ _ (by simp)).trans (heap_alloc_last W3 _)
  have hx2 : W4.heap[b2]? = some (.cells #[.int .i64 (chunk.toNat : Nat)] 3 (0, 0)) := by
    rw [← hW4, ← hb2, ← hb1]
    have h := heap_alloc_last (W3.alloc (.cells #[.int .i64 (D.length : Nat)] 3)) (.cells #[.int .i64 (chunk.toNat : Nat)] 3)
    rw [World.size_alloc] at h
    exact h
  have hb34 : Below W3.heap.size W3 W4 := by
    rw [← hW4]; exact ((Below.refl _ _).alloc (Nat.le_refl _) _).alloc (by simp) _
  have HX := Lib.hid (And.intro hx1 hx2)
  have HB34 := Lib.hid hb34
  have HBE : Hid (w2.heap.size = q ∧ q + 1 = bP ∧ bP + 1 = bO ∧ W3.heap.size = b1 ∧ b1 + 1 = b2) := Lib.hid ⟨hq, hbP, hbO, hb1, hb2⟩
  have HSZ : Hid (b1 < W4.heap.size ∧ b2 < W4.heap.size ∧ q < b1 ∧ bP < b1 ∧ bO < b1 ∧ w2.heap.size ≤ W4.heap.size) := Lib.hid (by
    have e1 := (Array.getElem?_eq_some_iff.1 hx1).1
    have e2 := (Array.getElem?_eq_some_iff.1 hx2).1
    have e3 := HQ.out.2.2.2
    have e4 := HB3.out.size
    have e5 := hb34.size
    omega)
  have H0 : Hid (PackI w2 W4 q bP bO b1 b2 k2 [] W4) := Lib.hid (by
    obtain ⟨g0, g1, g2, _⟩ := HQ.out
    rw [hq] at g0 g1 g2
    rw [hbP] at g1 g2
    rw [hbO] at g2
    have up : ∀ {i : Nat} {o' : Obj}, W3.heap[i]? = some o' → W4.heap[i]? = some o' := fun h => (hb34.block _ (Array.getElem?_eq_some_iff.1 h).1).trans h
    exact ⟨⟨none, false, [], _, ⟨_, up g0, rfl, rfl⟩, (fun i hi => by cases hi), up g2, Own.nil _ _, rfl⟩, up g1, rfl, rfl, HB3.out.trans (hb34.mono HB3.out.size), ⟨HSZ.out.1, HSZ.out.2.1⟩⟩)
  have HPC : Hid (∀ (x : Nat × Nat), x.1 < x.2 → x.2 ≤ D.length → ∃ bD oD, PkC w2 k2 AF cF mp B bD oD ∧ k2.D = D) := Lib.hid (fun x h1 h2 => by
    have hBw : Bytes w2 A D := HBY.out.1.below HB2.out
    obtain ⟨bD, oD, hA, hbD, _⟩ := hBw.addr (by omega)
    refine ⟨bD, oD, ?_, by rw [← HK2.out]⟩
    rw [← HK2.out]
    have ho := HO.out
    exact ⟨HRD.out, hA, hBw, hbD, HBY.out.2.2.1, HBY.out.2.2.2, by show 1 ≤ dict; omega, ho.2.2.2.2.1.2, ho.1, ho.2.1, ho.2.2.1, ho.2.2.2.1⟩)
  have HPM : Hid (∀ pre x t, partsL D.length chunk.toNat 0 = pre ++ x :: t → (x.1 < x.2 ∧ x.2 ≤ D.length) ∧ (packGo k2 pre (none, false)).1.length + (x.2 - x.1 + 3) ≤ 140737488355328) := Lib.hid (fun pre x t h => by
    have hc1 : 1 ≤ chunk.toNat := by have := HO.out; omega
    have hm := partsL_mem (n := D.length) hc1 (D.length - 0) 0 (Nat.le_refl _)
    rw [h] at hm
    have hx := hm x (by simp)
    have hlen := partsL_len (n := D.length) hc1 (D.length - 0) 0 (Nat.le_refl _)
    rw [h, List.length_append] at hlen
    have hp := packGo_pre (k := k2) pre (none, false) (fun y hy => by rw [← HK2.out]; exact hm y (by simp [hy]))
    rw [show k2.D.length = D.length by rw [← HK2.out]] at hp
    have hl := HBY.out.2.2.2
    have hle : pre.length * (D.length + 3) ≤ 100000 * 100003 := Nat.mul_le_mul (by omega) (by omega)
    exact ⟨hx, by omega⟩)
  have HRW : Hid (∀ W', Below w2.heap.size w2 W' → W'.heap[w.heap.size + 1]? = some (.cells #[.slice none 0 0] 22 (0, 0)) ∧ W'.heap[w.heap.size + 1 + 1]? = some (.cells #[.int .i64 0] 24 (0, 0))) := Lib.hid (fun W' hb' => by
    have hbb := HBW2.out.trans (hb'.mono HBW2.out.size)
    exact ⟨(hbb.block _ (Array.getElem?_eq_some_iff.1 HR.out.1).1).trans HR.out.1, (hbb.block _ (Array.getElem?_eq_some_iff.1 HR.out.2).1).trans HR.out.2⟩)
  have HLT2 : Hid (w.heap.size + 1 + 1 < w2.heap.size) := Lib.hid (Nat.lt_of_lt_of_le (Array.getElem?_eq_some_iff.1 HR.out.2).1 HBW2.out.size)
  clear hx1 hx2 hb34 hW4 hq hbP hbO hb1 hb2
  refine wpIn_range_p rfl (by decide) (gf := 32) (lb := #[PF b1, PF b2]) rfl trivial (enters_of Try.func32 (by kernel_rfl) rfl)
    (parts_seq Fence.wide 5 trivial rfl (by decide) D.length chunk.toNat b1 b2 (by have := HO.out; omega) (by have := HO.out; omega) (by have := HBY.out.2.2.2; omega) W4 ⟨_, HX.out.1⟩ ⟨_, HX.out.2⟩) rfl
    (PackI w2 W4 q bP bO b1 b2 k2) (fun s W o h => h.alloc s W o) (fun s W l o o' h => h.put HSZ.out.2.2.2.2.2 ⟨HSZ.out.1, HSZ.out.2.1⟩ s W l o o') (fun s W h => ⟨h.n1, h.n2⟩) H0.out
    (fun x => { tmps := #[.slice A D.length cD, OptV (lc : Nat) (lp : Nat) (pb : Nat) nice chunk block check chain dict, undef, .pointer (some ⟨w.heap.size, 0, none⟩), .pointer (some ⟨w.heap.size + 1, 0, none⟩), .pointer (some ⟨w.heap.size + 1 + 1, 0, none⟩), PF F2, .int .i64 0, .pointer (some ⟨bP, 0, none⟩), .pointer (some ⟨bO, 0, none⟩), .int .i64 (x.1 : Nat), .int .i64 (x.2 : Nat), undef, undef, OptV (lc : Nat) (lp : Nat) (pb : Nat) nice chunk block check chain dict, .bool true, .bool false, .tuple #[PF F2, .int .i64 0], .slice A D.length cD, .pointer (some ⟨w.heap.size, 8, none⟩), .int .u32 (dict : Nat), .int .i64 (dict : Nat), .pointer (some ⟨w.heap.size, 3, none⟩), .int .i64 nice, .tuple #[PF F2, .int .i64 0], PF F2, .int .i64 0, .int .i64 0, .bool false, undef, .slice A D.length cD, OptV (lc : Nat) (lp : Nat) (pb : Nat) nice chunk block check chain dict, PF F2, .agg #[.slice A D.length cD, .int .i64 (lc : Nat), .int .i64 (lp : Nat), .int .i64 (pb : Nat), .int .i64 nice, .int .i64 chunk, .int .i64 block, .int .i64 check, chain, .int .u32 (dict : Nat), PF F2, .pointer none, .bool false], .pointer (some ⟨q, 0, none⟩), .slice A D.length cD, .int .i64 (D.length : Nat), .pointer (some ⟨w.heap.size, 4, none⟩), .int .i64 chunk, .func (.func 32) #[] #[PF b1, PF b2], .int .i64 (x.1 : Nat), .int .i64 (x.2 : Nat), undef, undef, undef, undef, undef, undef, undef, undef, undef, undef, undef, undef, undef, undef, undef, undef], defers := [] }) ?assign ?body ?done
  case assign =>
    intro l x W K hK
    gi_wp2
    exact hK
  case body =>
    rintro l pre x t W hsplit hI
    obtain ⟨s, had, Y, v, hPk, hYg, hbo, hown, hst⟩ := hI.ex
    obtain ⟨⟨h12, h2n⟩, hlen⟩ := HPM.out pre x t hsplit
    obtain ⟨bD, oD, hC, hkD⟩ := HPC.out x h12 h2n
    have hq : w2.heap.size = q := HBE.out.1
    have HCH := Lib.hid (chunk_any hC hI.below hPk (Nat.le_of_eq hq) hYg x.1 x.2 h12 (by rw [hkD]; exact h2n))
    have cP : W.cell? ⟨bP, 0, none⟩ = some (PF q) := by rw [cell_of_row W _ _ _ _ _ hI.box]; rfl
    have hlc := chunkOf_len (k := k2) (a := x.1) (b := x.2) (s := s) (had := had) h12 (by rw [hkD]; exact h2n)
    obtain ⟨L, hL⟩ : ∃ L, (packGo k2 pre (none, false)).1 = L := ⟨_, rfl⟩
    rw [hL] at hown hlen
    have hsn : packGo k2 (pre ++ [x]) (none, false) = (L ++ (chunkOf k2 x.1 x.2 s had).1, (chunkOf k2 x.1 x.2 s had).2) := by rw [packGo_snoc, hL, hst]
    obtain ⟨⟨R, s3, had3⟩, hR⟩ : ∃ r, chunkOf k2 x.1 x.2 s had = r := ⟨_, rfl⟩
    rw [hR] at hsn HCH hlc
    obtain ⟨LR, hLR⟩ : ∃ LR, L ++ R = LR := ⟨_, rfl⟩
    have hsn2 : packGo k2 (pre ++ [x]) (none, false) = (LR, s3, had3) := by rw [hsn, ← hLR]
    have HLR := Lib.hid hLR
    have HSN := Lib.hid hsn2
    have HLL : Hid (L.length + R.length ≤ 140737488355328) := Lib.hid (by have : R.length ≤ x.2 - x.1 + 3 := hlc; omega)
    have HPK := Lib.hid hPk
    have HYG := Lib.hid hYg
    have HBO := Lib.hid hbo
    have HOW := Lib.hid hown
    have HI := Lib.hid hI
    clear hPk hYg hbo hown hst hlen hC hlc hL hsn hsn2 hLR hR hq hI h12 h2n hkD
    gi_wp2_with fail
    refine ⟨trivial, (CallsIn.inRound _ (callsIn_wide.2 HCH.out)).mono ?_⟩
    rintro e w3 ⟨v3, Y3, rfl, ho3, hP3, hon3, hY3⟩
    simp only at ho3 hP3
    obtain ⟨A3, c3, rfl, _, _, hB3⟩ := ho3.read
    have nO := HPK.out.off HBO.out (by decide) (by decide) (by decide)
    have nP := HPK.out.off HI.out.box (by decide) (by decide) (by decide)
    have hbo3 := (hon3.block bO (Array.getElem?_eq_some_iff.1 HBO.out).1 nO).trans HBO.out
    have hbp3 := (hon3.block bP (Array.getElem?_eq_some_iff.1 HI.out.box).1 nP).trans HI.out.box
    have n1 := HPK.out.off (HI.out.n1.trans HX.out.1) (by decide) (by decide) (by decide)
    have n2 := HPK.out.off (HI.out.n2.trans HX.out.2) (by decide) (by decide) (by decide)
    have h31 := (hon3.block b1 HI.out.lt.1 n1).trans HI.out.n1
    have h32 := (hon3.block b2 HI.out.lt.2 n2).trans HI.out.n2
    have hown3 : Own w2.heap.size w3 v L := HOW.out.keepC (fun g hg => hon3.block g (HOW.out.from_base g hg).2 (HPK.out.own HOW.out g hg))
    have hb3 : Below w2.heap.size w2 w3 := HI.out.below.trans (hon3.below HI.out.below.size (fun i hi => by
      rcases List.mem_cons.1 hi with rfl | hi
      · exact Nat.le_of_eq HBE.out.1
      · exact HYG.out i hi))
    have cO3 : w3.cell? ⟨bO, 0, none⟩ = some v := by rw [cell_of_row w3 _ _ _ _ _ hbo3]; rfl
    have HO3 := Lib.hid hown3
    have HB3' := Lib.hid hb3
    have HBB3 := Lib.hid hB3
    have HP3 := Lib.hid hP3
    have HON3 := Lib.hid hon3
    have HY3 := Lib.hid hY3
    have HROW3 := Lib.hid (And.intro hbo3 (And.intro hbp3 (And.intro h31 h32)))
    clear ho3 hP3 hon3 hY3 hB3 nO nP hbo3 hbp3 n1 n2 h31 h32 hown3 hb3 cP
    gi_wp2_with (gi_at_builtin; refine wpListIn_append_bytes ?_ (.tmp 52) (.tmp 53) ?_ w2.heap.size w3 v L ?_ HO3.out A3 R c3 ?_ HBB3.out HLL.out HB3'.out.size ?_; rfl; rfl; rfl; rfl; intro v4 w4 ho4 hg4; rw [HLR.out] at ho4; obtain ⟨A4, c4, rfl, _, _, _⟩ := ho4.read; have HO4 := Lib.hid ho4; have HG4 := Lib.hid hg4; have hbo4 := (hg4.block bO (Array.getElem?_eq_some_iff.1 HROW3.out.1).1 (fun e => HO3.out.ne HROW3.out.1 (by decide) e.symm)).trans HROW3.out.1; have cO4 : w4.cell? ⟨bO, 0, none⟩ = some v := (by rw [cell_of_row w4 _ _ _ _ _ hbo4]; rfl); have fO4 := frozen_of_row w4 bO 0 _ _ hbo4; have HBO4 := Lib.hid hbo4; clear ho4 hg4 hbo4)
    have hg4 := HG4.out
    have hne := fun {j : Nat} {cs : Array Value} {t : TypeId} {y : Nat × Nat} (hj : w3.heap[j]? = some (.cells cs t y)) (ht : t ≠ 5) => (hg4.block j (Array.getElem?_eq_some_iff.1 hj).1 (fun e => HO3.out.ne hj ht e.symm))
    have hbp4 := (hne HROW3.out.2.1 (by decide)).trans HROW3.out.2.1
    have h41 := (hne (HROW3.out.2.2.1.trans HX.out.1) (by decide)).trans HROW3.out.2.2.1
    have h42 := (hne (HROW3.out.2.2.2.trans HX.out.2) (by decide)).trans HROW3.out.2.2.2
    have hP4 : Pk w4 q k2 s3 had3 Y3 := HP3.out.keep (fun i hi => hg4.block i (by
      rcases List.mem_cons.1 hi with rfl | hi
      · exact HP3.out.lt
      · exact HP3.out.ltY i hi) (fun e => HP3.out.own HO3.out i e.symm hi))
    have hb4 : Below w2.heap.size w2 w4 := below_grown HB3'.out hg4 HB3'.out.size (fun g e => (HO3.out.from_base g e).1)
    have oth : ∀ i, i ≠ bO → (w4.setCell ⟨bO, 0, none⟩ (.slice A4 LR.length c4)).heap[i]? = w4.heap[i]? := fun i hi => heap_setCell_other _ _ _ _ hi
    have hbe := HBE.out
    have hsz := HSZ.out
    have nO4 := hP4.off HBO4.out (by decide) (by decide) (by decide)
    refine ⟨((keepsOthers_only HON3.out HPK.out.isCells).trans (KeepsOthers.of_grownBy hg4 (fun j o hj ho => HO3.out.isCells hj ho))).trans (KeepsOthers.setCell _ _ _), ⟨⟨s3, had3, Y3, .slice A4 LR.length c4, hP4.keep (fun i hi => oth i (fun e => by subst e; exact nO4 hi)), fun i hi => ?_, ?_, ?_, ?_⟩, (oth bP (by omega)).trans hbp4, (oth b1 (by omega)).trans h41, (oth b2 (by omega)).trans h42, hb4.setCell (by show w2.heap.size ≤ bO; omega) _, ?_⟩⟩
    · rcases HY3.out i hi with h | h
      · exact HYG.out i h
      · exact Nat.le_trans HI.out.below.size h
    · exact heap_set HBO4.out 0 _
    · rw [HSN.out]
      exact HO4.out.keepC (fun g hg => oth g (fun e => by subst e; exact HO4.out.ne HBO4.out (by decide) hg))
    · rw [HSN.out]
    · have e1 := (Array.getElem?_eq_some_iff.1 (h41.trans HX.out.1)).1
      have e2 := (Array.getElem?_eq_some_iff.1 (h42.trans HX.out.2)).1
      simpa [World.setCell] using And.intro e1 e2
  case done =>
    rintro DD W hD hI hK
    obtain ⟨s, had, Y, v, hPk, hYg, hbo, hown, hst⟩ := hI.ex
    obtain ⟨L, hL⟩ : ∃ L, (packGo k2 (partsL D.length chunk.toNat 0) (none, false)).1 = L := ⟨_, rfl⟩
    rw [hL] at hown
    obtain ⟨LR, hLR⟩ : ∃ LR, L ++ [0] = LR := ⟨_, rfl⟩
    have HPB : Hid (packB k = LR) := Lib.hid (by
      rw [← HK.out, ← hLR, ← hL, ← HK2.out]
      exact congrArg (fun z : List UInt8 × CodS × Bool => z.1 ++ [0]) (packGo_F ⟨A, D, cD, lc, lp, pb, nice, chunk, block, check, chain, dict, F⟩ F2 _ _).symm)
    have HLL : Hid (L.length + 1 ≤ 140737488355328) := Lib.hid (by
      have hc1 : 1 ≤ chunk.toNat := by have := HO.out; omega
      have h1 := packGo_len (k := k2) (n := D.length) hc1 (by rw [← HK2.out]) (D.length - 0) 0 (none, false) (Nat.le_refl _)
      have h2 := partsL_len (n := D.length) hc1 (D.length - 0) 0 (Nat.le_refl _)
      have h3 := HBY.out.2.2.2
      rw [hL] at h1
      omega)
    have HLR := Lib.hid hLR
    have cO : W.cell? ⟨bO, 0, none⟩ = some v := by rw [cell_of_row W _ _ _ _ _ hbo]; rfl
    obtain ⟨W5, hW5⟩ : ∃ W5, W.alloc (.cells #[.int .u8 0] 5) = W5 := ⟨_, rfl⟩
    have hb5 : Below W.heap.size W W5 := by rw [← hW5]; exact (Below.refl _ _).alloc (Nat.le_refl _) _
    have HX5 : Hid (Bytes W5 (some ⟨W.heap.size, 0, none⟩) [0]) := Lib.hid (by rw [← hW5]; exact Bytes.one W 0)
    have HO5 : Hid (Own w2.heap.size W5 v L) := Lib.hid (by rw [← hW5]; exact hown.alloc _)
    have HB5 : Hid (Below w2.heap.size w2 W5) := Lib.hid (hI.below.trans (hb5.mono hI.below.size))
    have HK5 : Hid (W5.heap[DD]? = some (.deferred (some []))) := Lib.hid ((hb5.block _ (Array.getElem?_eq_some_iff.1 hK).1).trans hK)
    have HW5 := Lib.hid hW5
    have HDD := Lib.hid hD
    have n12 : w.heap.size + 1 ≠ w.heap.size + 1 + 1 := by omega
    clear hPk hYg hbo hown hst hL hLR hW5 hb5 hI hK hD
    gi_wp2_with (gi_at_builtin; rw [HW5.out]; refine wpListIn_append_bytes ?_ (.tmp 55) (.tmp 56) ?_ w2.heap.size W5 v L ?_ HO5.out (some ⟨W.heap.size, 0, none⟩) [0] 1 ?_ HX5.out HLL.out HB5.out.size ?_; rfl; rfl; rfl; rfl; intro v6 w6 ho6 hg6; rw [HLR.out] at ho6; obtain ⟨A6, c6, rfl, _, _, _⟩ := ho6.read; have HO6 := Lib.hid ho6; have HB6 := Lib.hid (below_grown HB5.out hg6 HB5.out.size (fun g e => (HO5.out.from_base g e).1)); have HK6 : Hid (w6.heap[DD]? = some (.deferred (some []))) := Lib.hid ((hg6.block DD (Array.getElem?_eq_some_iff.1 HK5.out).1 (fun e => by have := HO5.out.isCells e.symm HK5.out; cases this)).trans HK5.out); obtain ⟨s1, s2⟩ := HRW.out w6 HB6.out; have k1 : w6.cell? ⟨w.heap.size + 1, 0, none⟩ = some (.slice none 0 0) := (by rw [cell_of_row w6 _ _ _ _ _ s1]; rfl); have k2 : w6.cell? ⟨w.heap.size + 1 + 1, 0, none⟩ = some (.int .i64 0) := (by rw [cell_of_row w6 _ _ _ _ _ s2]; rfl); have f1 := frozen_of_row w6 _ 0 _ _ s1; have f2 := frozen_of_row w6 _ 0 _ _ s2; have HS12 := Lib.hid (And.intro s1 s2); clear ho6 hg6 s1 s2)
    have hsz := HLT2.out
    have l4 : w.heap.size + 1 + 1 < w6.heap.size := (Array.getElem?_eq_some_iff.1 HS12.out.2).1
    obtain ⟨W8, hW8⟩ : ∃ W8, (w6.setCell ⟨w.heap.size + 1, 0, none⟩ (.slice A6 LR.length c6)).setCell ⟨w.heap.size + 1 + 1, 0, none⟩ (.int .i64 0) = W8 := ⟨_, rfl⟩
    have hK8 : W8.heap[DD]? = some (.deferred (some [])) := by
      rw [← hW8]
      have h4 := HDD.out
      have h5 := HSZ.out
      exact (heap_setCell_other _ _ _ _ (by show DD ≠ w.heap.size + 1 + 1; omega)).trans ((heap_setCell_other _ _ _ _ (by show DD ≠ w.heap.size + 1; omega)).trans HK6.out)
    have g1 : W8.heap[w.heap.size + 1]? = some (.cells #[.slice A6 LR.length c6] 22 (0, 0)) := by
      rw [← hW8]
      exact (heap_setCell_other _ _ _ _ (by show w.heap.size + 1 ≠ w.heap.size + 1 + 1; omega)).trans (heap_set HS12.out.1 0 _)
    have g2 : W8.heap[w.heap.size + 1 + 1]? = some (.cells #[.int .i64 0] 24 (0, 0)) := by
      rw [← hW8]
      exact heap_set ((heap_setCell_other _ _ _ _ (by show w.heap.size + 1 + 1 ≠ w.heap.size + 1; omega)).trans HS12.out.2) 0 _
    have hb8 : Below w.heap.size w W8 := by
      rw [← hW8]
      exact ((HB2.out.trans (HB6.out.mono HB2.out.size)).setCell (by show w.heap.size ≤ w.heap.size + 1; omega) _).setCell (by show w.heap.size ≤ w.heap.size + 1 + 1; omega) _
    have ho8 : Own w.heap.size W8 (.slice A6 LR.length c6) LR := by
      refine (HO6.out.keepC (fun g hg => ?_)).weaken HB2.out.size
      have hge := (HO6.out.from_base g hg).1
      rw [← hW8]
      exact (heap_setCell_other _ _ _ _ (by show g ≠ w.heap.size + 1 + 1; omega)).trans (heap_setCell_other _ _ _ _ (by show g ≠ w.heap.size + 1; omega))
    rw [hW8]
    have ne4 : w.heap.size + 1 ≠ DD ∧ w.heap.size + 1 + 1 ≠ DD := by have h4 := HDD.out; have h5 := HSZ.out; omega
    have kk1 : (W8.putObj DD (.deferred none)).cell? ⟨w.heap.size + 1, 0, none⟩ = some (.slice A6 LR.length c6) := by rw [cell_of_row _ _ _ _ _ _ ((World.putObj_heap_other ne4.1).trans g1)]; rfl
    have kk2 : (W8.putObj DD (.deferred none)).cell? ⟨w.heap.size + 1 + 1, 0, none⟩ = some (.int .i64 0) := by rw [cell_of_row _ _ _ _ _ _ ((World.putObj_heap_other ne4.2).trans g2)]; rfl
    have ho9 : Own w.heap.size (W8.putObj DD (.deferred none)) (.slice A6 LR.length c6) LR := ho8.keepC (fun g hg => World.putObj_heap_other (fun e => by
      subst e; have := ho8.isCells hg hK8; cases this))
    have hb9 : Below w.heap.size w (W8.putObj DD (.deferred none)) := hb8.grown (grownBy_putObj' W8 DD (.deferred none)) hb8.size (fun k e => by cases e; have h4 := HDD.out; have h5 := HSZ.out; have h6 := HLT2.out; omega)
    rw [HPB.out]
    refine ⟨by simp, .inl ⟨_, _, rfl, run_takeDeferred (b := DD) (ds := []) hK8, ?_⟩⟩
    exact ⟨_, (by simp [results, Try.results9, go_sem, kk1, kk2]), _, rfl, ho9, hb9⟩
end Go.Proofs.Ytkckjjchfccdjaa
