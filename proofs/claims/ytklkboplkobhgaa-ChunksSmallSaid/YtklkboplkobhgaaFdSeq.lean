/- The finder's iterators: the places before with the same four bytes; those with the same two. -/
import Derived.Test.YtklkboplkobhgaaFdAll
import Derived.Shelf.Abstract
import Derived.Shelf.RegionOpen
import Derived.OwnWalkIn
import Derived.TacticsInMore
import Derived.LoopNIn
import Derived.LoopIn
namespace Go.Proofs.Ytklkboplkobhgaa
set_option maxRecDepth 100000
open Go.RowKit Go.Shelf
attribute [local go_sem] Oper.semAt_some

theorem prevs_cell {w : World} {B n : Nat} {d : List UInt8} (h : w.heap[B]? = some (.cells (prevs d n).toArray 21 (0, 0))) (i : Nat) (hi : i < n) : w.cell? ⟨B, i, none⟩ = some (.int .i32 (lastAt d (four d i) i)) := by
  rw [cell_of_row w B _ _ _ _ h]
  simp [prevs, hi]
set_option maxRecDepth 100000 in
set_option maxHeartbeats 1000000 in
theorem four_seq (F : Fence) (n : Nat) (hfn : F.fn 45) (hro : F.round = none) (hn : 1 ≤ n) (Fp : Nat) (A : Option Addr) (c : Nat) (d : List UInt8) (dict nice : Int) (mp B N : Nat) (b1 b2 place : Nat) (w : World)
    (hF : FinderAt w Fp A c d dict nice mp (.slice (some ⟨B, 0, none⟩) N N)) (hB : w.heap[B]? = some (.cells (prevs d N).toArray 21 (0, 0))) (hx1 : BoxAt b1 w (PF Fp)) (hx2 : BoxAt b2 w (.int .i64 (place : Nat))) (hp : place < N) (hN : N ≤ d.length) :
    SeqOf F n Try.prog 45 #[PF b1, PF b2] (chain d (four d place) place) w := by
  intro l J Jx W hJB hJD hXD hY h0
  have hb0 := hJB _ _ h0
  have HC : Hid (∀ W, Below w.heap.size w W → W.cell? ⟨b1, 0, none⟩ = some (PF Fp) ∧ W.cell? ⟨b2, 0, none⟩ = some (.int .i64 (place : Nat)) ∧ W.cell? ⟨Fp, 4, none⟩ = some (.slice (some ⟨B, 0, none⟩) N N) ∧ ∀ i, i < N → W.cell? ⟨B, i, none⟩ = some (.int .i32 (lastAt d (four d i) i))) := Lib.hid (fun W hb => by
    have hl1 : b1 < w.heap.size := by obtain ⟨t, h⟩ := hx1; exact (Array.getElem?_eq_some_iff.1 h).1
    have hl2 : b2 < w.heap.size := by obtain ⟨t, h⟩ := hx2; exact (Array.getElem?_eq_some_iff.1 h).1
    exact ⟨(hx1.keep (hb.block _ hl1)).cell, (hx2.keep (hb.block _ hl2)).cell, (hF.below hb).cells.2.2.2.2, fun i hi => prevs_cell ((hb.block _ (Array.getElem?_eq_some_iff.1 hB).1).trans hB) i hi⟩)
  have HY := Lib.hid hY
  have HJB := Lib.hid hJB
  have HJD := Lib.hid hJD
  have HXD := Lib.hid hXD
  have hpi : (place : Int) < (N : Int) := by omega
  have hNi : (N : Int) ≤ 100000 := by have := hF.small; omega
  have HNN := Lib.hid (And.intro hp hN)
  obtain ⟨c1, c2, c3, c4⟩ := HC.out W hb0
  have c5 := c4 place hp
  have HLB : Hid (∀ m, m ≤ place → -1 ≤ lastAt d (four d place) m ∧ lastAt d (four d place) m < place ∨ lastAt d (four d place) m = -1) := Lib.hid (fun m hm => by
    rcases lastAt_bounds d (four d place) m with h | ⟨_, h⟩
    · left; omega
    · right; exact h)
  have HX0 := Lib.hid h0
  obtain ⟨x, hx⟩ : ∃ x, four d place = x := ⟨_, rfl⟩
  rw [hx] at c5 HLB ⊢
  rw [hx] at HY
  have HXE := Lib.hid hx
  clear hF hB hx1 hx2 hJB hJD hXD hY h0 hp hN c4 hx
  refine callsIn_of_wp Try.func45 rfl hfn ?_ hro
  simp only [Try.ntmps45, List.size_toArray, List.length_cons, List.length_nil, Nat.reduceAdd, Nat.reduceSub, Array.replicate_succ, Array.replicate_zero, List.push_toArray, List.append_toArray, List.nil_append, List.cons_append]
  gi_wp2
  refine wpIn_region_quiet_lit hro (by kernel_rfl) (by kernel_rfl) ?_
  repeat (gi_big_quiet_step (fail))
  refine wpQuietIn_nil ?_
  rintro _ ⟨nq, rfl⟩
  gi_wp2
  gi_loopw [4] (fun v wr => ∃ (pre : List Nat) (m : Nat) (q : Int), v = .int .i32 q ∧ Hid (q = lastAt d x m) ∧ Hid (chain d x place = pre ++ chain d x m) ∧ m ≤ place ∧ J pre wr) (fun v _ => (intOf v + 1).toNat)
  case atStart => exact ⟨[], place, _, rfl, rfl, rfl, Nat.le_refl _, HJD.out _ _ _ HX0.out⟩
  case round =>
    obtain ⟨pre, m, q, rfl, HQ, HL, hm, hJs⟩ := hrel
    clear c1 c2 c3 c5
    have hqb := HLB.out m hm
    rw [← HQ.out] at hqb
    have HJS := Lib.hid hJs
    by_cases hq0 : q = -1
    · subst hq0
      have HE : Hid (pre = chain d x place) := Lib.hid (by
        rw [HL.out, chain_none (by rw [← HQ.out]; decide), List.append_nil])
      clear hqb hJs
      gi_wp2
      refine ⟨(fun _ h => nomatch h), ?_⟩
      gi_wp2
      go_end0
      exact ⟨⟨_, rfl⟩, .inl (by rw [← HE.out]; exact HJS.out)⟩
    · obtain ⟨j, rfl⟩ : ∃ j : Nat, q = (j : Int) := ⟨q.toNat, by omega⟩
      obtain ⟨e1, e2, e3⟩ := chain_some HQ.out.symm
      have hji : (j : Int) < (place : Int) := by omega
      have hne : ((j : Int) == -1) = false := by rw [beq_eq_false_iff_ne]; omega
      obtain ⟨fn, tmps, assign, body, hy, hR⟩ := HY.out pre j (chain d x j) wr (by rw [HL.out, e1]) hJs
      have HLE : Hid (chain d x place = (pre ++ [j]) ++ chain d x j) := Lib.hid (by rw [HL.out, e1]; simp)
      have HJP : Hid (j ≤ place) := Lib.hid (by omega)
      have HJX : Hid (four d j = x) := Lib.hid e3
      clear e1 e2 e3 hqb hq0 hJs
      gi_wp2
      refine hR.mono ?_
      rintro e W3 (⟨rfl, hJ3⟩ | ⟨rfl, hx3⟩)
      · obtain ⟨c1, c2, c3, c4⟩ := HC.out W3 (HJB.out _ _ hJ3)
        have c5 := c4 j (by have := HJP.out; have := HNN.out; omega)
        rw [HJX.out] at c5
        have hjN : (j : Int) < (N : Int) := by omega
        have HJ3 := Lib.hid hJ3
        clear c4 hJ3
        obtain ⟨q2, hq2⟩ : ∃ q2, lastAt d x j = q2 := ⟨_, rfl⟩
        have hq2b : q2 < (j : Int) := by
          rcases lastAt_bounds d x j with h | ⟨_, h⟩ <;> omega
        rw [hq2] at c5
        have HQ2 : Hid (q2 = lastAt d x j) := Lib.hid hq2.symm
        clear hq2
        gi_wp2
        go_roundw
        case rel => exact ⟨pre ++ [j], j, q2, rfl, HQ2, HLE, HJP.out, HJ3.out⟩
        case measure => simp [intOf]; omega
      · have HX3 := Lib.hid hx3
        clear hx3
        gi_wp2
        go_end0
        exact ⟨⟨_, rfl⟩, .inr HX3.out⟩
theorem cell_lt {w : World} {a : Addr} {v : Value} (h : w.cell? a = some v) : a.block < w.heap.size := by
  obtain ⟨o, ho, _⟩ := cells_of_cell h
  exact (Array.getElem?_eq_some_iff.1 ho).1
theorem Read32.below {w w' : World} {A : Option Addr} {l : List Nat} (h : Read32 w A l) (hb : Below w.heap.size w w') : Read32 w' A l := by
  intro i hi
  obtain ⟨g, hA, hc⟩ := h i hi
  exact ⟨g, hA, (hb.cell (p := ⟨g, i, none⟩) (cell_lt hc)).trans hc⟩
set_option maxRecDepth 100000 in
set_option maxHeartbeats 1000000 in
theorem pair_seq (F : Fence) (n : Nat) (hfn : F.fn 47) (hro : F.round = none) (hn : 1 ≤ n) (A : Option Addr) (c : Nat) (l : List Nat) (b1 b2 h : Nat) (w : World)
    (hA : Read32 w A l) (hc : l.length ≤ c) (hl : l.length ≤ 100000) (hs : ∀ x ∈ l, x ≤ 100000) (hx1 : BoxAt b1 w (.int .i64 (h : Nat))) (hx2 : BoxAt b2 w (.slice A l.length c)) (hh : h ≤ l.length) :
    SeqOf F n Try.prog 47 #[PF b1, PF b2] (l.take h).reverse w := by
  intro ll J Jx W hJB hJD hXD hY h0
  have hb0 := hJB _ _ h0
  have HC : Hid (∀ W, Below w.heap.size w W → W.cell? ⟨b1, 0, none⟩ = some (.int .i64 (h : Nat)) ∧ W.cell? ⟨b2, 0, none⟩ = some (.slice A l.length c) ∧ Read32 W A l) := Lib.hid (fun W hb => by
    have hl1 : b1 < w.heap.size := by obtain ⟨t, h⟩ := hx1; exact (Array.getElem?_eq_some_iff.1 h).1
    have hl2 : b2 < w.heap.size := by obtain ⟨t, h⟩ := hx2; exact (Array.getElem?_eq_some_iff.1 h).1
    exact ⟨(hx1.keep (hb.block _ hl1)).cell, (hx2.keep (hb.block _ hl2)).cell, hA.below hb⟩)
  have HY := Lib.hid hY
  have HJB := Lib.hid hJB
  have HJD := Lib.hid hJD
  have HS := Lib.hid (fun (i : Nat) (hi : i < l.length) => hs _ (List.getElem_mem hi))
  have hci : (l.length : Int) ≤ (c : Int) := by omega
  have hli : (l.length : Int) ≤ 100000 := by omega
  have hhi : (h : Int) ≤ (l.length : Int) := by omega
  obtain ⟨c1, c2, _⟩ := HC.out W hb0
  have HX0 := Lib.hid h0
  clear hA hx1 hx2 hJB hJD hXD hY h0 hc hs
  refine callsIn_of_wp Try.func47 rfl hfn ?_ hro
  simp only [Try.ntmps47, List.size_toArray, List.length_cons, List.length_nil, Nat.reduceAdd, Nat.reduceSub, Array.replicate_succ, Array.replicate_zero, List.push_toArray, List.append_toArray, List.nil_append, List.cons_append]
  gi_wp2
  gi_loopw [4] (fun v wr => ∃ (pre : List Nat) (m : Nat), v = .int .i64 ((m : Int) - 1) ∧ Hid ((l.take h).reverse = pre ++ (l.take m).reverse) ∧ m ≤ h ∧ J pre wr) (fun v _ => (intOf v + 1).toNat)
  case atStart => exact ⟨[], h, rfl, rfl, Nat.le_refl _, HX0.out⟩
  case round =>
    obtain ⟨pre, m, rfl, HL, hm, hJs⟩ := hrel
    clear c1 c2
    have HJS := Lib.hid hJs
    cases m with
    | zero =>
      have HE : Hid (pre = (l.take h).reverse) := Lib.hid (by rw [HL.out]; simp)
      clear hJs
      gi_wp2
      refine ⟨(fun _ h => nomatch h), ?_⟩
      gi_wp2
      go_end0
      exact ⟨⟨_, rfl⟩, .inl (by rw [← HE.out]; exact HJS.out)⟩
    | succ j =>
      have hjl : j < l.length := by omega
      have e1 : (l.take (j + 1)).reverse = l[j] :: (l.take j).reverse := by
        rw [List.take_add_one, List.getElem?_eq_getElem hjl]; simp
      obtain ⟨_, c2, c3⟩ := HC.out wr (HJB.out _ _ hJs)
      obtain ⟨g, rfl, c4⟩ := c3 j hjl
      have hx := HS.out j hjl
      obtain ⟨x, hxe⟩ : ∃ x, l[j] = x := ⟨_, rfl⟩
      rw [hxe] at e1 hx c4
      obtain ⟨fn, tmps, assign, body, hy, hR⟩ := HY.out pre x (l.take j).reverse wr (by rw [HL.out, e1]) hJs
      have HLE : Hid ((l.take h).reverse = (pre ++ [x]) ++ (l.take j).reverse) := Lib.hid (by rw [HL.out, e1]; simp)
      have hji : (j : Int) < (l.length : Int) := by omega
      have hxi : (x : Int) ≤ 100000 := by omega
      have ej : ((j + 1 : Nat) : Int) - 1 = (j : Int) := by omega
      rw [ej]
      have HJH : Hid (j ≤ h) := Lib.hid (by omega)
      clear e1 c3 hJs hxe ej hm hjl hx
      gi_wp2
      refine hR.mono ?_
      rintro e W3 (⟨rfl, hJ3⟩ | ⟨rfl, hx3⟩)
      · have HJ3 := Lib.hid hJ3
        clear hJ3
        gi_wp2
        go_roundw
        case rel => exact ⟨pre ++ [x], j, rfl, HLE, HJH.out, HJ3.out⟩
        case measure => simp [intOf]
      · have HX3 := Lib.hid hx3
        clear hx3
        gi_wp2
        go_end0
        exact ⟨⟨_, rfl⟩, .inr HX3.out⟩
end Go.Proofs.Ytklkboplkobhgaa
