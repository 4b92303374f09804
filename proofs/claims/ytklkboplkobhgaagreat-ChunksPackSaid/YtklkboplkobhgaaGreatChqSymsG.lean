/- Several texts in one: ChqSyms, ChqGood. -/
import Derived.Test.YtklkboplkobhgaaGreatChqOne
import Derived.Test.YtklkboplkobhgaaGreatChkStands
import Derived.Test.YtklkboplkobhgaaGreatCoAll
import Derived.Test.YtklkboplkobhgaaGreatMdSym
/- The reference's parser: all symbols of a part. -/
namespace Go.Proofs.YtklkboplkobhgaaGreat
set_option maxRecDepth 100000
open Go.RowKit

theorem becomes_all (C base : Nat) (lc lp pb st : Int) (r : R4) (P : List Nat) (vR vP : Value) (s : Sy) (w : World) (hC : CodAt w C base lc lp pb st r P vR vP) (hbase : base ≤ w.heap.size) (h0 : 0 ≤ st) (h1 : st ≤ 11) (hk : s.k ≤ 2) (hr : s.r ≤ 3) :
    Calls Tryz.prog 41 #[PF C, s.val] w (BecDone C base lc lp pb (stateAfter st (s.k : Nat) (s.l : Nat)) (afterS s r) P vP w) := by
  rw [← repsAfter_after s hk r]
  obtain ⟨k, b, l, d, q⟩ := s
  simp only at hk hr
  rcases (by omega : k = 0 ∨ k = 1 ∨ k = 2) with rfl | rfl | rfl
  · exact becomes_lit C base lc lp pb st r P vR vP b _ _ _ w hC h0 h1
  · exact becomes_match C base lc lp pb st r P vR vP b _ _ _ w hC hbase
  · exact becomes_rep C base lc lp pb st r P vR vP b _ _ q w hC hbase hr
theorem stateAfter_ok {st k l : Int} (h0 : 0 ≤ st) (h1 : st ≤ 11) : 0 ≤ stateAfter st k l ∧ stateAfter st k l ≤ 11 := by
  unfold stateAfter
  split
  · split
    · omega
    · split <;> omega
  · split
    · split <;> omega
    · split
      · omega
      · split <;> omega
/-- A symbol's length: none of a literal. -/
theorem stands_len {D : List UInt8} {dict : Int} {p : Nat} {r : R4} {s : Sy} (h : Stands D dict p r s) : (s.k = 0 → s.l = 0) ∧ (s.k ≠ 0 → 1 ≤ s.l) := by
  refine ⟨fun e => ?_, fun e => ?_⟩
  · have hp := h.plain
    unfold plainZ at hp
    rw [if_pos (by omega)] at hp
    have e := congrArg (fun v : Value => match v with | .agg a => a[2]? | _ => none) hp
    have e2 : some (Value.int .i64 0) = some (Value.int .i64 ((s.l : Nat) : Int)) := e
    injection e2 with e2
    injection e2 with _ e2
    omega
  · have hf := h.fits
    unfold fitsZ at hf
    by_cases k1 : ((s.k : Nat) : Int) = 1
    · rw [if_pos k1] at hf
      have := of_decide_eq_true hf; omega
    · rw [if_neg k1] at hf
      by_cases k2 : ((s.k : Nat) : Int) = 2
      · rw [if_pos k2] at hf
        have := of_decide_eq_true hf; omega
      · rw [if_neg k2] at hf
        have := of_decide_eq_true hf; omega
theorem OwnV.rowT {t : TypeId} {base : Nat} {w : World} {v : Value} {l : List Value} (h : OwnV t base w v l) {g : Nat} (hg : v.ownBlock = some g) : ∃ cs x, w.heap[g]? = some (.cells cs t x) := by
  rcases h with ⟨_, ⟨rfl, _⟩ | ⟨g', cap', cur, rfl, _, h4, _⟩⟩
  · cases hg
  · have e : g' = g := by simpa [Value.ownBlock] using hg
    subst e
    exact ⟨_, _, h4⟩
theorem OwnS.ne {base : Nat} {W : World} {v : Value} {l : List Sy} (h : OwnS base W v l) {j : Nat} {cs : Array Value} {t : TypeId} {x : Nat × Nat} (hj : W.heap[j]? = some (.cells cs t x)) (ht : t ≠ 96) : v.ownBlock ≠ some j := by
  intro he
  rcases h with ⟨_, ⟨rfl, _⟩ | ⟨g', cap', cur, rfl, _, h4, _⟩⟩
  · cases he
  · have e : g' = j := by simpa [Value.ownBlock] using he
    subst e
    rw [h4] at hj; injection hj with hj; injection hj with _ e2 _; exact ht e2.symm
def RSymsDone (L : List Sy) (w : World) (e : Ending) (w' : World) : Prop := ∃ v C, e = .returned (.tuple #[v, PF C]) ∧ OwnS w.heap.size w' v L ∧ Below w.heap.size w w'
/-- Between two symbols. -/
structure RsI (w wr : World) (base : Nat) (r : R4) (st : Int) (vR v : Value) (L : List Sy) : Prop where
  cod : CodAt wr w.heap.size base 0 0 0 st r [] vR (.slice none 0 0)
  st0 : 0 ≤ st
  st1 : st ≤ 11
  below : Below w.heap.size w wr
  own : OwnS (w.heap.size + 1) wr v L
set_option maxRecDepth 100000 in
set_option maxHeartbeats 4000000 in
theorem rsyms_any (A : Option Addr) (D : List UInt8) (c : Nat) (dict nice : Int) (a tt : Nat) (r : R4) (vR : Value) (base : Nat) (w : World) (hB : Bytes w A D) (hc : D.length ≤ c) (hl : D.length ≤ 100000) (hat : a ≤ tt) (ht : tt ≤ D.length) (hd : 1 ≤ dict) (hn : nice ≤ 273) (hR : OwnV 3 base w vR (rc4 r)) (hbase : base ≤ w.heap.size) :
    Calls Tryz.prog 30 #[.slice A D.length c, .int .i64 (a : Nat), .int .i64 (tt : Nat), .int .i64 dict, .int .i64 nice, vR] w (RSymsDone (symsOf D dict nice tt (tt - a) a r).1 w) := by
  obtain ⟨LS, hLS⟩ : ∃ LS, (symsOf D dict nice tt (tt - a) a r).1 = LS := ⟨_, rfl⟩
  rw [hLS]
  obtain ⟨gR, cR, eR, _, _⟩ := hR.some_of_pos (show 0 < 4 by decide)
  rw [show (rc4 r).length = 4 from rfl] at eR
  subst eR
  obtain ⟨W, hW⟩ : ∃ W, w.alloc (.cells #[.int .i64 0, .int .i64 0, .int .i64 0, .int .i64 0, .slice (some ⟨gR, 0, none⟩) 4 cR, .slice none 0 0] 87) = W := ⟨_, rfl⟩
  have hbW : Below w.heap.size w W := by rw [← hW]; exact (Below.refl _ _).alloc (Nat.le_refl _) _
  have hI : RsI w W base r 0 (.slice (some ⟨gR, 0, none⟩) 4 cR) (.slice none 0 0) [] := ⟨⟨by rw [← hW]; exact heap_alloc_new _ _, hR.below hbW, OwnV.nil _ _ _⟩, by decide, by decide, hbW, OwnS.nil _ _⟩
  have HLS := Lib.hid hLS
  have HW := Lib.hid hW
  have HI := Lib.hid hI
  have HBY := Lib.hid (And.intro hB (And.intro hc hl))
  have HD := Lib.hid (And.intro hat (And.intro ht (And.intro hd hn)))
  have HBA := Lib.hid hbase
  have hdi : (D.length : Int) ≤ 100000 := by omega
  have hti : (tt : Int) ≤ (D.length : Int) := by omega
  clear hLS hW hbW hI hB hc hl hat ht hd hn hR hbase
  go_enter Tryz.func30, Tryz.ntmps30
  go_upto_region 2 with fail
  rw [HW.out]
  go_wp2_with fail
  go_loopw [15, 16] (fun s15 s16 wr => ∃ (pl : Nat) (st : Int) (r' : R4) (L : List Sy) (v vR' : Value), s15 = v ∧ s16 = .int .i64 (pl : Nat) ∧ Hid (RsI w wr base r' st vR' v L) ∧ Hid (LS = L ++ (symsOf D dict nice tt (tt - pl) pl r').1) ∧ pl ≤ tt ∧ L.length ≤ pl) (fun _ s16 _ => tt - (intOf s16).toNat)
  case atStart => exact ⟨a, 0, r, [], _, _, rfl, rfl, HI, Lib.hid (by rw [List.nil_append]; exact HLS.out.symm), HD.out.1, Nat.zero_le _⟩
  case round =>
    obtain ⟨pl, st, r', L, v, vR', rfl, rfl, HR, HL, hpl, hLl⟩ := hrel
    have hpli : (pl : Int) ≤ 100000 := by have := HD.out; omega
    by_cases hlt : pl < tt
    case neg =>
      have hlti : ¬ (pl : Int) < (tt : Int) := by omega
      have HE : Hid (LS = L) := Lib.hid (by rw [HL.out, symsOf_end hlt, List.append_nil])
      clear hlt
      go_wp2_with fail
      go_ret2
      rw [HE.out]
      exact ⟨_, _, rfl, HR.out.own.weaken (Nat.le_succ _), HR.out.below⟩
    case pos =>
      have hlti : (pl : Int) < (tt : Int) := by omega
      obtain ⟨S, hS⟩ : ∃ S, nextS D dict nice tt pl r' = S := ⟨_, rfl⟩
      have hst := next_stands_to (D := D) (dict := dict) (nice := nice) (r := r') hlt HD.out.2.1 HBY.out.2.2 HD.out.2.2.1 HD.out.2.2.2
      have hto := next_to (D := D) (dict := dict) (nice := nice) (r := r') hlt
      have hstep := symsOf_step (D := D) (dict := dict) (nice := nice) (r := r') hlt
      rw [hS] at hst hto hstep
      obtain ⟨c3, c4, c5, cf, g', cap', eV, hc4, _, d0, d1, d2, d3, _, hgl⟩ := HR.out.cod.cells
      subst eV
      have HONE := Lib.hid (one_any A D c dict nice pl tt r' g' cap' wr (HBY.out.1.below HR.out.below) HBY.out.2.1 HBY.out.2.2 hlt HD.out.2.1 ⟨hgl, d0, d1, d2, d3⟩ hc4)
      rw [hS] at HONE
      obtain ⟨sl1, sl2⟩ := stands_len hst
      have hk2 : S.k ≤ 2 := hst.k
      have hq3 : S.r ≤ 3 := hst.q
      have hli : (S.l : Int) ≤ 273 := by have := hst.short; omega
      have HL2 : Hid (LS = (L ++ [S]) ++ (symsOf D dict nice tt (tt - (pl + max S.l 1)) (pl + max S.l 1) (afterS S r')).1) := Lib.hid (by rw [HL.out, hstep]; simp)
      have HT := Lib.hid (And.intro hlt (And.intro hto (And.intro sl1 (And.intro sl2 (And.intro hk2 hq3)))))
      have HLL := Lib.hid hLl
      clear hS hst hto hstep hlt d0 d1 d2 d3 hgl sl1 sl2 hk2 hq3 hc4 c3 c5 cf hLl
      go_wp2_with fail
      refine HONE.out.mono ?_
      rintro e w1 ⟨rfl, hb1⟩
      have HB1 := Lib.hid hb1
      obtain ⟨W2, hW2⟩ : ∃ W2, w1.alloc (.cells #[.int .i64 (S.k : Nat), .int .u8 (S.b.toNat : Nat), .int .i64 (S.l : Nat), .int .i64 (S.d : Nat), .int .i64 (S.r : Nat)] 96) = W2 := ⟨_, rfl⟩
      have hrow2 : W2.heap[w1.heap.size]? = some (.cells (syCells [S]).toArray 96 (0, 0)) := by rw [← hW2]; exact heap_alloc_last _ _
      have hb2 : Below wr.heap.size wr W2 := by rw [← hW2]; exact hb1.alloc hb1.size _
      have HW2 := Lib.hid hW2
      have HROW2 := Lib.hid hrow2
      have HB2 := Lib.hid hb2
      have HBEC := Lib.hid (becomes_all w.heap.size base 0 0 0 st r' [] _ _ S W2 (HR.out.cod.below hb2) (Nat.le_trans HBA.out (Nat.le_trans HR.out.below.size hb2.size)) HR.out.st0 HR.out.st1 HT.out.2.2.2.2.1 HT.out.2.2.2.2.2)
      have y0 : W2.cell? ⟨w1.heap.size, 0, none⟩ = some (.int .i64 (S.k : Nat)) := by rw [cell_of_row W2 _ _ _ _ _ hrow2]; rfl
      have y1 : W2.cell? ⟨w1.heap.size, 1, none⟩ = some (.int .u8 (S.b.toNat : Nat)) := by rw [cell_of_row W2 _ _ _ _ _ hrow2]; rfl
      have y2 : W2.cell? ⟨w1.heap.size, 2, none⟩ = some (.int .i64 (S.l : Nat)) := by rw [cell_of_row W2 _ _ _ _ _ hrow2]; rfl
      have y3 : W2.cell? ⟨w1.heap.size, 3, none⟩ = some (.int .i64 (S.d : Nat)) := by rw [cell_of_row W2 _ _ _ _ _ hrow2]; rfl
      have y4 : W2.cell? ⟨w1.heap.size, 4, none⟩ = some (.int .i64 (S.r : Nat)) := by rw [cell_of_row W2 _ _ _ _ _ hrow2]; rfl
      clear hW2 hrow2 hb2 hb1 c4
      go_upto_region 6 with fail
      rw [HW2.out]
      go_wp2_with fail
      refine HBEC.out.mono ?_
      rintro e w3 ⟨vR3, rfl, hC3, hg3⟩
      have HC3 := Lib.hid hC3
      have hlt1 : w1.heap.size < W2.heap.size := (Array.getElem?_eq_some_iff.1 HROW2.out).1
      have hwr : wr.heap.size ≤ w1.heap.size := HB1.out.size
      have hCw : w.heap.size < wr.heap.size := (Array.getElem?_eq_some_iff.1 HR.out.cod.box).1
      have hrow3 : w3.heap[w1.heap.size]? = some (.cells (syCells [S]).toArray 96 (0, 0)) := (hg3.block w1.heap.size hlt1 (fun e => by injection e with e; omega)).trans HROW2.out
      have hown3 : OwnS (w.heap.size + 1) w3 u15 L := (HR.out.own.below HB2.out).keep (fun g hg => hg3.block g (Nat.lt_of_lt_of_le (HR.out.own.lt g hg).2 HB2.out.size) (fun e => by injection e with e; have := (HR.out.own.lt g hg).1; omega))
      have hb3 : Below w.heap.size w w3 := by
        have h2 := HR.out.below.trans (HB2.out.mono HR.out.below.size)
        exact h2.grown hg3 h2.size (fun k e => by cases e; exact Nat.le_refl _)
      obtain ⟨W4, hW4⟩ : ∃ W4, w3.alloc (.cells #[.int .i64 (S.k : Nat), .int .u8 (S.b.toNat : Nat), .int .i64 (S.l : Nat), .int .i64 (S.d : Nat), .int .i64 (S.r : Nat)] 96) = W4 := ⟨_, rfl⟩
      have hrow4 : W4.heap[w3.heap.size]? = some (.cells (syCells [S]).toArray 96 (0, 0)) := by rw [← hW4]; exact heap_alloc_last _ _
      have hb34 : Below w3.heap.size w3 W4 := by rw [← hW4]; exact (Below.refl _ _).alloc (Nat.le_refl _) _
      have z0 : w3.cell? ⟨w1.heap.size, 0, none⟩ = some (.int .i64 (S.k : Nat)) := by rw [cell_of_row w3 _ _ _ _ _ hrow3]; rfl
      have z1 : w3.cell? ⟨w1.heap.size, 1, none⟩ = some (.int .u8 (S.b.toNat : Nat)) := by rw [cell_of_row w3 _ _ _ _ _ hrow3]; rfl
      have z2 : w3.cell? ⟨w1.heap.size, 2, none⟩ = some (.int .i64 (S.l : Nat)) := by rw [cell_of_row w3 _ _ _ _ _ hrow3]; rfl
      have z3 : w3.cell? ⟨w1.heap.size, 3, none⟩ = some (.int .i64 (S.d : Nat)) := by rw [cell_of_row w3 _ _ _ _ _ hrow3]; rfl
      have z4 : w3.cell? ⟨w1.heap.size, 4, none⟩ = some (.int .i64 (S.r : Nat)) := by rw [cell_of_row w3 _ _ _ _ _ hrow3]; rfl
      have HW4 := Lib.hid hW4
      have HROW4 := Lib.hid hrow4
      have HROW34 : Hid (W4.heap[w1.heap.size]? = some (.cells (syCells [S]).toArray 96 (0, 0))) := Lib.hid ((hb34.block _ (Array.getElem?_eq_some_iff.1 hrow3).1).trans hrow3)
      have HOW4 := Lib.hid (hown3.below hb34)
      have HB4 := Lib.hid (hb3.trans (hb34.mono hb3.size))
      have HC4 := Lib.hid (hC3.below hb34)
      have HLM : Hid (L.length ≤ 1000000) := Lib.hid (by have := HLL.out; have := HD.out.2.1; have := HBY.out.2.2; omega)
      have HCB : Hid (w.heap.size + 1 ≤ W4.heap.size ∧ w.heap.size < W4.heap.size) := Lib.hid (by have := hb34.size; have := (Array.getElem?_eq_some_iff.1 hrow3).1; omega)
      clear hW4 hrow4 hb34 hrow3 hown3 hb3 hC3 hg3 y0 y1 y2 y3 y4 hlt1 hwr hCw
      go_upto_region 8 with (at_builtin; rw [HW4.out]; refine wpList_append_sy rfl (.tmp 38) (.tmp 40) rfl (w.heap.size + 1) W4 u15 L rfl HOW4.out w3.heap.size 1 S rfl HROW4.out HLM.out HCB.out.1 ?_; intro v5 w5 ho5 hg5; have HO5 := Lib.hid ho5; have HG5 := Lib.hid hg5; have hrow5 := (hg5.block w1.heap.size (Array.getElem?_eq_some_iff.1 HROW34.out).1 (fun e => by have h1 := (HR.out.own.lt w1.heap.size e.symm).2; have h2 := HB1.out.size; omega)).trans HROW34.out; have u0 : w5.cell? ⟨w1.heap.size, 0, none⟩ = some (.int .i64 (S.k : Nat)) := (by rw [cell_of_row w5 _ _ _ _ _ hrow5]; rfl); have u2 : w5.cell? ⟨w1.heap.size, 2, none⟩ = some (.int .i64 (S.l : Nat)) := (by rw [cell_of_row w5 _ _ _ _ _ hrow5]; rfl); clear ho5 hg5 hrow5)
      have HR5 : Hid (RsI w w5 base (afterS S r') (stateAfter st (S.k : Nat) (S.l : Nat)) vR3 v5 (L ++ [S])) := Lib.hid (by
        have hg := HG5.out
        have hso := stateAfter_ok (k := (S.k : Nat)) (l := (S.l : Nat)) HR.out.st0 HR.out.st1
        refine ⟨⟨(hg.block w.heap.size HCB.out.2 (fun e => by have := (HOW4.out.lt w.heap.size e.symm).1; omega)).trans HC4.out.box, HC4.out.reps.grown hg (fun g h1 h2 => ?_), OwnV.nil _ _ _⟩, hso.1, hso.2, below_grown HB4.out hg HB4.out.size (fun g e => Nat.le_trans (Nat.le_succ _) (HOW4.out.lt g e).1), HO5.out⟩
        obtain ⟨cs, x, hc⟩ := HC4.out.reps.rowT h1
        exact HOW4.out.ne hc (by decide) h2)
      by_cases hk : S.k = 0
      · have hki : ((S.k : Int) == 0) = true := by rw [beq_iff_eq]; omega
        have HE : Hid (pl + max S.l 1 = pl + 1 ∧ S.l = 0) := Lib.hid (by have := HT.out.2.2.1 hk; omega)
        clear hk
        go_wp2_with fail
        exact ⟨⟨pl + max S.l 1, _, _, L ++ [S], v5, vR3, rfl, by congr 1; have := HE.out; omega, HR5, HL2, HT.out.2.1, by rw [List.length_append, List.length_singleton]; have := HLL.out; have := HE.out; omega⟩, by have := HE.out; have := HT.out.1; simp [intOf]; omega⟩
      · have hki : ((S.k : Int) == 0) = false := by rw [beq_eq_false_iff_ne]; omega
        have HE : Hid (pl + max S.l 1 = pl + S.l ∧ 1 ≤ S.l) := Lib.hid (by have := HT.out.2.2.2.1 hk; omega)
        clear hk
        go_wp2_with fail
        exact ⟨⟨pl + max S.l 1, _, _, L ++ [S], v5, vR3, rfl, by congr 1; have := HE.out; omega, HR5, HL2, HT.out.2.1, by rw [List.length_append, List.length_singleton]; have := HLL.out; have := HE.out; omega⟩, by have := HE.out; have := HT.out.1; simp [intOf]; omega⟩
end Go.Proofs.YtklkboplkobhgaaGreat

/- Repeats stay good. -/
namespace Go.Proofs.YtklkboplkobhgaaGreat
set_option maxRecDepth 100000
open Go.RowKit

theorem rGood_after {r : R4} (h : rGood r) {k d q : Nat} (hd : d ≤ 4294967296) (hd1 : k = 1 → 1 ≤ d) : rGood (repsAfter r (k : Nat) (d : Nat) (q : Nat)) := by
  obtain ⟨⟨a1, a2, a3, a4⟩, b1, b2, b3, b4⟩ := h
  unfold repsAfter
  split
  · exact ⟨⟨a1, a2, a3, a4⟩, b1, b2, b3, b4⟩
  · split
    · exact ⟨⟨by have := hd1 (by omega); show (1 : Int) ≤ (d : Int); omega, a1, a2, a3⟩, by show (d : Int) ≤ 4294967296; omega, b1, b2, b3⟩
    · split
      · exact ⟨⟨a1, a2, a3, a4⟩, b1, b2, b3, b4⟩
      · split
        · exact ⟨⟨a2, a1, a3, a4⟩, b2, b1, b3, b4⟩
        · split
          · exact ⟨⟨a3, a1, a2, a4⟩, b3, b1, b2, b4⟩
          · exact ⟨⟨a4, a1, a2, a3⟩, b4, b1, b2, b3⟩
end Go.Proofs.YtklkboplkobhgaaGreat
