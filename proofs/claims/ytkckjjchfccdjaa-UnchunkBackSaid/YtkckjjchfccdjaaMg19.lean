/- Several texts in one: FdChain, FdFour, FdSearch, FdSeq. -/
import Derived.Test.YtkckjjchfccdjaaMg18
import Derived.Test.YtkckjjchfccdjaaMg17
import Derived.Test.YtkckjjchfccdjaaMg7
import Derived.Shelf.Abstract
import Derived.Shelf.RegionOpen
import Derived.OwnWalkIn
import Derived.TacticsInMore
import Derived.LoopNIn
import Derived.LoopIn
/- The places before one with the same four bytes, the nearest first; the places of a pair, in order. -/
namespace Go.Proofs.Ytkckjjchfccdjaa
set_option maxRecDepth 100000

def chain (d : List UInt8) (x : UInt8 × UInt8 × UInt8 × UInt8) : Nat → List Nat
  | 0 => []
  | n + 1 => if four d n = x then n :: chain d x n else chain d x n
theorem chain_succ (d : List UInt8) (x : UInt8 × UInt8 × UInt8 × UInt8) (n : Nat) : chain d x (n + 1) = if four d n = x then n :: chain d x n else chain d x n := rfl
theorem chain_none {d : List UInt8} {x : UInt8 × UInt8 × UInt8 × UInt8} : ∀ {n}, lastAt d x n < 0 → chain d x n = []
  | 0, _ => rfl
  | n + 1, h => by
    unfold lastAt at h
    rw [chain_succ]
    split at h
    · omega
    · rename_i hx
      rw [if_neg hx]; exact chain_none h
theorem chain_some {d : List UInt8} {x : UInt8 × UInt8 × UInt8 × UInt8} {j : Nat} : ∀ {n}, lastAt d x n = (j : Int) → chain d x n = j :: chain d x j ∧ j < n ∧ four d j = x
  | 0, h => by simp [lastAt] at h
  | n + 1, h => by
    unfold lastAt at h
    rw [chain_succ]
    split at h
    · rename_i hx
      obtain rfl : n = j := by omega
      rw [if_pos hx]
      exact ⟨rfl, by omega, hx⟩
    · rename_i hx
      rw [if_neg hx]
      obtain ⟨h1, h2, h3⟩ := chain_some h
      exact ⟨h1, by omega, h3⟩
theorem mem_chain {d : List UInt8} {x : UInt8 × UInt8 × UInt8 × UInt8} {j : Nat} : ∀ {n}, j ∈ chain d x n ↔ j < n ∧ four d j = x
  | 0 => by simp [chain]
  | n + 1 => by
    rw [chain_succ]
    split
    · rename_i hx
      rw [List.mem_cons, mem_chain]
      constructor
      · rintro (rfl | ⟨h1, h2⟩)
        · exact ⟨by omega, hx⟩
        · exact ⟨by omega, h2⟩
      · rintro ⟨h1, h2⟩
        rcases Nat.lt_or_ge j n with h | h
        · exact .inr ⟨h, h2⟩
        · exact .inl (by omega)
    · rename_i hx
      rw [mem_chain]
      constructor
      · rintro ⟨h1, h2⟩
        exact ⟨by omega, h2⟩
      · rintro ⟨h1, h2⟩
        rcases Nat.lt_or_ge j n with h | h
        · exact ⟨h, h2⟩
        · obtain rfl : j = n := by omega
          exact absurd h2 hx
theorem chain_falls (d : List UInt8) (x : UInt8 × UInt8 × UInt8 × UInt8) : ∀ n, (chain d x n).Pairwise (· > ·)
  | 0 => List.Pairwise.nil
  | n + 1 => by
    rw [chain_succ]
    split
    · exact List.pairwise_cons.2 ⟨fun j hj => (mem_chain.1 hj).1, chain_falls d x n⟩
    · exact chain_falls d x n
/-- Four bytes are alike just where the four are. -/
theorem four_of_len {d : List UInt8} {p q L : Nat} (h : 4 ≤ eqLen d p q L) : four d q = four d p := by
  have hi := (isLen_eqLen d L p q).eq
  have h0 := hi 0 (by omega)
  have h1 := hi 1 (by omega)
  have h2 := hi 2 (by omega)
  have h3 := hi 3 (by omega)
  simp only [Nat.add_zero] at h0
  unfold four
  rw [h0, h1, h2, h3]
theorem pair_of_len {d : List UInt8} {p q L : Nat} (h : 2 ≤ eqLen d p q L) : d.getD q 0 = d.getD p 0 ∧ d.getD (q + 1) 0 = d.getD (p + 1) 0 := by
  have hi := (isLen_eqLen d L p q).eq
  have h0 := hi 0 (by omega)
  have h1 := hi 1 (by omega)
  simp only [Nat.add_zero] at h0
  exact ⟨h0.symm, h1.symm⟩
/-- The places of a pair below n, in order. -/
def places (d : List UInt8) (a b : UInt8) (n : Nat) : List Nat := (List.range n).filter fun i => d.getD i 0 == a && d.getD (i + 1) 0 == b
theorem places_succ (d : List UInt8) (a b : UInt8) (n : Nat) : places d a b (n + 1) = places d a b n ++ (if d.getD n 0 = a ∧ d.getD (n + 1) 0 = b then [n] else []) := by
  unfold places
  rw [List.range_succ, List.filter_append]
  congr 1
  by_cases h : d.getD n 0 = a ∧ d.getD (n + 1) 0 = b
  · have e : (d.getD n 0 == a && d.getD (n + 1) 0 == b) = true := by rw [h.1, h.2]; simp
    rw [if_pos h]
    simp only [List.filter_cons, List.filter_nil, e, if_true]
  · rw [if_neg h]
    simp only [List.filter_cons, List.filter_nil]
    rw [if_neg]
    intro h2
    simp at h2
    exact h (by simpa using h2)
theorem mem_places {d : List UInt8} {a b : UInt8} {n i : Nat} : i ∈ places d a b n ↔ i < n ∧ d.getD i 0 = a ∧ d.getD (i + 1) 0 = b := by
  unfold places
  rw [List.mem_filter, List.mem_range]
  simp only [Bool.and_eq_true, beq_iff_eq]
theorem places_rise (d : List UInt8) (a b : UInt8) (n : Nat) : (places d a b n).Pairwise (· < ·) := List.Pairwise.filter _ (List.pairwise_lt_range)
end Go.Proofs.Ytkckjjchfccdjaa

/- The finder's beforeFour. -/
namespace Go.Proofs.Ytkckjjchfccdjaa
set_option maxRecDepth 100000
open Go.RowKit

/-- A block of one value. -/
def BoxAt (b : Nat) (w : World) (v : Value) : Prop := ∃ t, w.heap[b]? = some (.cells [v].toArray t (0, 0))
theorem BoxAt.cell {b : Nat} {w : World} {v : Value} (h : BoxAt b w v) : w.cell? ⟨b, 0, none⟩ = some v := by
  obtain ⟨t, h⟩ := h
  rw [cell_of_row w b _ _ _ _ h]; rfl
theorem BoxAt.keep {b : Nat} {w w' : World} {v : Value} (h : BoxAt b w v) (hb : w'.heap[b]? = w.heap[b]?) : BoxAt b w' v := by
  obtain ⟨t, h⟩ := h
  exact ⟨t, hb.trans h⟩
theorem BoxAt.made (w : World) (v : Value) (t : TypeId) : BoxAt w.heap.size (w.alloc (.cells #[v] t)) v := ⟨t, heap_alloc_last _ _⟩
def FourDone (F : Nat) (place : Int) (w : World) (e : Ending) (w' : World) : Prop := ∃ b1 b2, e = .returned (.func (.func 95) #[] #[PF b1, PF b2]) ∧ BoxAt b1 w' (PF F) ∧ BoxAt b2 w' (.int .i64 place) ∧ w.heap.size ≤ b1 ∧ w.heap.size ≤ b2 ∧ Below w.heap.size w w'
set_option maxRecDepth 100000 in
theorem beforeFour_any (F : Nat) (place : Int) (w : World) : Calls Try.prog 85 #[PF F, .int .i64 place] w (FourDone F place w) := by
  obtain ⟨W1, hW1⟩ : ∃ W1, w.alloc (.cells #[PF F] 53) = W1 := ⟨_, rfl⟩
  obtain ⟨W2, hW2⟩ : ∃ W2, W1.alloc (.cells #[.int .i64 place] 3) = W2 := ⟨_, rfl⟩
  have hb1 : Below w.heap.size w W1 := by rw [← hW1]; exact (Below.refl _ _).alloc (Nat.le_refl _) _
  have hb2 : Below W1.heap.size W1 W2 := by rw [← hW2]; exact (Below.refl _ _).alloc (Nat.le_refl _) _
  have hx1 : BoxAt w.heap.size W1 (PF F) := by rw [← hW1]; exact BoxAt.made _ _ _
  have hx2 : BoxAt W1.heap.size W2 (.int .i64 place) := by rw [← hW2]; exact BoxAt.made _ _ _
  have hlt : w.heap.size < W1.heap.size := by rw [← hW1]; simp
  have HH := Lib.hid (And.intro hb1 (And.intro hb2 (And.intro hx1 (And.intro hx2 hlt))))
  have HW1 := Lib.hid hW1
  have HW2 := Lib.hid hW2
  have hsz : Hid (W1.heap.size = w.heap.size + 1) := Lib.hid (by rw [← hW1]; simp)
  clear hW1 hW2 hb1 hb2 hx1 hx2 hlt
  go_enter Try.func85, Try.ntmps85
  go_wp2_with fail
  rw [HW1.out, HW2.out]
  go_ret
  refine ⟨w.heap.size, W1.heap.size, ?_, HH.out.2.2.1.keep (HH.out.2.1.block _ HH.out.2.2.2.2), HH.out.2.2.2.1, Nat.le_refl _, Nat.le_of_lt HH.out.2.2.2.2, HH.out.1.trans (HH.out.2.1.mono (Nat.le_of_lt HH.out.2.2.2.2))⟩
  first | rfl | (rw [hsz.out]; rfl)
end Go.Proofs.Ytkckjjchfccdjaa

/- slices.BinarySearch over int32. -/
namespace Go.Proofs.Ytkckjjchfccdjaa
set_option maxRecDepth 100000
open Go.RowKit

theorem nan_any (x : Int) (w : World) : Calls Try.prog 110 #[.int .i32 x] w fun e w' => e = .returned (.bool false) ∧ w = w' := by
  go_enter Try.func110, Try.ntmps110
  go_wp2_with fail
  go_ret
  exact ⟨rfl, rfl⟩
theorem snan_any (x : Int) (w : World) : Calls Try.prog 106 #[.int .i32 x] w fun e w' => e = .returned (.bool false) ∧ w = w' := by
  go_enter Try.func106, Try.ntmps106
  go_wp2_with fail
  go_ret
  exact ⟨rfl, rfl⟩
theorem less_any (x y : Int) (w : World) : Calls Try.prog 105 #[.int .i32 x, .int .i32 y] w fun e w' => e = .returned (.bool (decide (x < y))) ∧ w = w' := by
  have HN := Lib.hid nan_any
  generalize hb : decide (x < y) = b
  go_enter Try.func105, Try.ntmps105
  go_wp2_with fail
  refine (HN.out _ _).mono ?_
  rintro e w1 ⟨rfl, rfl⟩
  go_wp2_with fail
  go_ret
  exact ⟨rfl, rfl⟩
/-- What can be read of a slice of int32 numbers. -/
def Read32 (w : World) (A : Option Addr) (l : List Nat) : Prop := ∀ i (h : i < l.length), ∃ g, A = some ⟨g, 0, none⟩ ∧ w.cell? ⟨g, i, none⟩ = some (.int .i32 (l[i] : Nat))
def SearchDone (l : List Nat) (x : Nat) (w : World) (e : Ending) (w' : World) : Prop := (∃ (i : Nat) (b : Bool), e = .returned (.tuple #[.int .i64 (i : Nat), .bool b]) ∧ i ≤ l.length ∧ (∀ q (h : q < l.length), q < i → l[q] < x) ∧ (∀ q (h : q < l.length), i ≤ q → x ≤ l[q])) ∧ w = w'
set_option maxRecDepth 100000 in
set_option maxHeartbeats 1000000 in
theorem search_any (A : Option Addr) (l : List Nat) (c x : Nat) (w : World) (hA : Read32 w A l) (hl : l.length ≤ 100000) (hc : l.length ≤ c) (hs : l.Pairwise (· < ·)) :
    Calls Try.prog 96 #[.slice A l.length c, .int .i32 (x : Nat)] w (SearchDone l x w) := by
  have hli : (l.length : Int) ≤ 100000 := by omega
  have hci : (l.length : Int) ≤ (c : Int) := by omega
  have HA := Lib.hid hA
  have HLS := Lib.hid less_any
  have HNA := Lib.hid snan_any
  have HSO : Hid (∀ p q (hp : p < l.length) (hq : q < l.length), p < q → l[p] < l[q]) := Lib.hid (fun p q hp hq h => List.pairwise_iff_getElem.1 hs p q hp hq h)
  clear hA hs hc
  go_enter Try.func96, Try.ntmps96
  go_wp2_with fail
  go_loopw [7, 8] (fun a b wr => ∃ i j : Nat, i ≤ j ∧ j ≤ l.length ∧ a = .int .i64 (i : Nat) ∧ b = .int .i64 (j : Nat) ∧ Hid (∀ q (h : q < l.length), q < i → l[q] < x) ∧ Hid (∀ q (h : q < l.length), j ≤ q → x ≤ l[q]) ∧ wr = w) (fun a b _ => (intOf b).toNat - (intOf a).toNat)
  case atStart => exact ⟨0, l.length, by omega, Nat.le_refl _, rfl, rfl, Lib.hid (fun q _ h => by omega), Lib.hid (fun q h h2 => by omega), rfl⟩
  case round =>
    obtain ⟨i, j, hij, hj, rfl, rfl, H1, H2, rfl⟩ := hrel
    by_cases hlt : i < j
    · have hlti : (i : Int) < (j : Int) := by omega
      have hj4 : (j : Int) ≤ 100000 := by omega
      obtain ⟨m, hm⟩ : ∃ m : Nat, (i + j) / 2 = m := ⟨_, rfl⟩
      have hml : m < l.length := by omega
      have hmi : (m : Int) < (l.length : Int) := by omega
      obtain ⟨g, rfl, hcell⟩ := HA.out m hml
      have e1 : ((i : Int) + (j : Int)) / 2 = (m : Int) := by omega
      have HH := Lib.hid (show i ≤ m ∧ m < j by omega)
      obtain ⟨y, hy⟩ : ∃ y, l[m] = y := ⟨_, rfl⟩
      rw [hy] at hcell
      have HY := Lib.hid hy
      clear hy hm
      by_cases hyx : y < x
      · have hb : decide ((y : Int) < (x : Int)) = true := decide_eq_true (by omega)
        have HL1 := Lib.hid (HLS.out (y : Int) (x : Int) wr)
        rw [hb] at HL1
        have H3 : Hid (∀ q (h : q < l.length), q < m + 1 → l[q] < x) := Lib.hid (fun q hq h2 => by
          rcases Nat.lt_or_ge q m with h3 | h3
          · have := HSO.out q m hq hml h3
            have := HY.out
            omega
          · obtain rfl : q = m := by omega
            have := HY.out
            omega)
        clear hb
        go_wp2_with fail
        refine HL1.out.mono ?_
        rintro e w1 ⟨rfl, rfl⟩
        go_wp2_with fail
        exact ⟨⟨m + 1, j, by have := HH.out; omega, hj, by go_num, rfl, H3, H2, by trivial⟩, by have := HH.out; simp [intOf]; omega⟩
      · have hb : decide ((y : Int) < (x : Int)) = false := decide_eq_false (by omega)
        have HL1 := Lib.hid (HLS.out (y : Int) (x : Int) wr)
        rw [hb] at HL1
        have H3 : Hid (∀ q (h : q < l.length), m ≤ q → x ≤ l[q]) := Lib.hid (fun q hq h2 => by
          rcases Nat.lt_or_ge m q with h3 | h3
          · have := HSO.out m q hml hq h3
            have := HY.out
            omega
          · obtain rfl : q = m := by omega
            have := HY.out
            omega)
        clear hb
        go_wp2_with fail
        refine HL1.out.mono ?_
        rintro e w1 ⟨rfl, rfl⟩
        go_wp2_with fail
        exact ⟨⟨i, m, by have := HH.out; omega, by omega, rfl, rfl, H1, H3, by trivial⟩, by have := HH.out; simp [intOf]; omega⟩
    · obtain rfl : i = j := by omega
      have hi4 : (i : Int) ≤ 100000 := by omega
      by_cases hil : i < l.length
      · have hili : (i : Int) < (l.length : Int) := by omega
        obtain ⟨g, rfl, hcell⟩ := HA.out i hil
        obtain ⟨y, hy⟩ : ∃ y, l[i] = y := ⟨_, rfl⟩
        rw [hy] at hcell
        clear hy
        by_cases hyx : y = x
        · subst hyx
          go_wp2_with fail
          go_ret2
          exact ⟨⟨i, true, rfl, hj, H1.out, H2.out⟩, rfl⟩
        · have hb : ((y : Int) == (x : Int)) = false := by rw [beq_eq_false_iff_ne]; omega
          go_wp2_with fail
          refine (HNA.out _ _).mono ?_
          rintro e w1 ⟨rfl, rfl⟩
          go_wp2_with fail
          go_ret2
          exact ⟨⟨i, false, rfl, hj, H1.out, H2.out⟩, rfl⟩
      · have hili : ¬ (i : Int) < (l.length : Int) := by omega
        go_wp2_with fail
        go_ret2
        exact ⟨⟨i, false, rfl, hj, H1.out, H2.out⟩, rfl⟩
end Go.Proofs.Ytkckjjchfccdjaa

/- The finder's iterators: the places before with the same four bytes; those with the same two. -/
namespace Go.Proofs.Ytkckjjchfccdjaa
set_option maxRecDepth 100000
open Go.RowKit Go.Shelf
attribute [local go_sem] Oper.semAt_some

theorem prevs_cell {w : World} {B n : Nat} {d : List UInt8} (h : w.heap[B]? = some (.cells (prevs d n).toArray 21 (0, 0))) (i : Nat) (hi : i < n) : w.cell? ⟨B, i, none⟩ = some (.int .i32 (lastAt d (four d i) i)) := by
  rw [cell_of_row w B _ _ _ _ h]
  simp [prevs, hi]
set_option maxRecDepth 100000 in
set_option maxHeartbeats 1000000 in
theorem four_seq (F : Fence) (n : Nat) (hfn : F.fn 95) (hro : F.round = none) (hn : 1 ≤ n) (Fp : Nat) (A : Option Addr) (c : Nat) (d : List UInt8) (dict nice : Int) (mp B N : Nat) (b1 b2 place : Nat) (w : World)
    (hF : FinderAt w Fp A c d dict nice mp (.slice (some ⟨B, 0, none⟩) N N)) (hB : w.heap[B]? = some (.cells (prevs d N).toArray 21 (0, 0))) (hx1 : BoxAt b1 w (PF Fp)) (hx2 : BoxAt b2 w (.int .i64 (place : Nat))) (hp : place < N) (hN : N ≤ d.length) :
    SeqOf F n Try.prog 95 #[PF b1, PF b2] (chain d (four d place) place) w := by
  intro l J Jx W hJB hJD hXD hY h0
  have hb0 := hJB _ _ h0
  have HC : Hid (∀ W, Below w.heap.size w W → W.cell? ⟨b1, 0, none⟩ = some (PF Fp) ∧ W.cell? ⟨b2, 0, none⟩ = some (.int .i64 (place : Nat)) ∧ W.cell? ⟨Fp, 4, none⟩ = some (.slice (some ⟨B, 0, none⟩) N N) ∧ ∀ i, i < N → W.cell? ⟨B, i, none⟩ = some (.int .i32 (lastAt d (four d i) i))) := Lib.hid (fun W hb => by
    have hl1 : b1 < w.heap.size := by obtain ⟨t, h⟩ := hx1; exact (Array.getElem?_eq_some_iff.1 h).1
    have hl2 : b2 < w.heap.size := by obtain ⟨t, h⟩ := hx2; exact (Array.getElem?_eq_some_iff.1 h).1
    exact ⟨(hx1.keep (hb.block _ hl1)).cell, (hx2.keep (hb.block _ hl2)).cell, (hF.below hb).cells.2.2.2.2, fun i hi => prevs_cell ((hb.block _ (Array.getElem?_eq_some_iff.1 hB).1).trans hB) i hi⟩)
  have HY := Lib.hid hY
  have HJB := Lib.hid hJB
  have HJD := Lib.hid hJD
  have HXD := Lib.hid hXD
  have hpi : (place : Int) < (N : Int) := by omega
  have hNi : (N : Int) ≤ 100000 := by have := hF.small; omega
  have HNN := Lib.hid (And.intro hp hN)
  obtain ⟨c1, c2, c3, c4⟩ := HC.out W hb0
  have c5 := c4 place hp
  have HLB : Hid (∀ m, m ≤ place → -1 ≤ lastAt d (four d place) m ∧ lastAt d (four d place) m < place ∨ lastAt d (four d place) m = -1) := Lib.hid (fun m hm => by
    rcases lastAt_bounds d (four d place) m with h | ⟨_, h⟩
    · left; omega
    · right; exact h)
  have HX0 := Lib.hid h0
  obtain ⟨x, hx⟩ : ∃ x, four d place = x := ⟨_, rfl⟩
  rw [hx] at c5 HLB ⊢
  rw [hx] at HY
  have HXE := Lib.hid hx
  clear hF hB hx1 hx2 hJB hJD hXD hY h0 hp hN c4 hx
  refine callsIn_of_wp Try.func95 rfl hfn ?_ hro
  simp only [Try.ntmps95, List.size_toArray, List.length_cons, List.length_nil, Nat.reduceAdd, Nat.reduceSub, Array.replicate_succ, Array.replicate_zero, List.push_toArray, List.append_toArray, List.nil_append, List.cons_append]
  gi_wp2
  refine wpIn_region_quiet_lit hro (by kernel_rfl) (by kernel_rfl) ?_
  repeat (gi_big_quiet_step (fail))
  refine wpQuietIn_nil ?_
  rintro _ ⟨nq, rfl⟩
  gi_wp2
  gi_loopw [4] (fun v wr => ∃ (pre : List Nat) (m : Nat) (q : Int), v = .int .i32 q ∧ Hid (q = lastAt d x m) ∧ Hid (chain d x place = pre ++ chain d x m) ∧ m ≤ place ∧ J pre wr) (fun v _ => (intOf v + 1).toNat)
  case atStart => exact ⟨[], place, _, rfl, rfl, rfl, Nat.le_refl _, HJD.out _ _ _ HX0.out⟩
  case round =>
    obtain ⟨pre, m, q, rfl, HQ, HL, hm, hJs⟩ := hrel
    clear c1 c2 c3 c5
    have hqb := HLB.out m hm
    rw [← HQ.out] at hqb
    have HJS := Lib.hid hJs
    by_cases hq0 : q = -1
    · subst hq0
      have HE : Hid (pre = chain d x place) := Lib.hid (by
        rw [HL.out, chain_none (by rw [← HQ.out]; decide), List.append_nil])
      clear hqb hJs
      gi_wp2
      refine ⟨(fun _ h => nomatch h), ?_⟩
      gi_wp2
      go_end0
      exact ⟨⟨_, rfl⟩, .inl (by rw [← HE.out]; exact HJS.out)⟩
    · obtain ⟨j, rfl⟩ : ∃ j : Nat, q = (j : Int) := ⟨q.toNat, by omega⟩
      obtain ⟨e1, e2, e3⟩ := chain_some HQ.out.symm
      have hji : (j : Int) < (place : Int) := by omega
      have hne : ((j : Int) == -1) = false := by rw [beq_eq_false_iff_ne]; omega
      obtain ⟨fn, tmps, assign, body, hy, hR⟩ := HY.out pre j (chain d x j) wr (by rw [HL.out, e1]) hJs
      have HLE : Hid (chain d x place = (pre ++ [j]) ++ chain d x j) := Lib.hid (by rw [HL.out, e1]; simp)
      have HJP : Hid (j ≤ place) := Lib.hid (by omega)
      have HJX : Hid (four d j = x) := Lib.hid e3
      clear e1 e2 e3 hqb hq0 hJs
      gi_wp2
      refine hR.mono ?_
      rintro e W3 (⟨rfl, hJ3⟩ | ⟨rfl, hx3⟩)
      · obtain ⟨c1, c2, c3, c4⟩ := HC.out W3 (HJB.out _ _ hJ3)
        have c5 := c4 j (by have := HJP.out; have := HNN.out; omega)
        rw [HJX.out] at c5
        have hjN : (j : Int) < (N : Int) := by omega
        have HJ3 := Lib.hid hJ3
        clear c4 hJ3
        obtain ⟨q2, hq2⟩ : ∃ q2, lastAt d x j = q2 := ⟨_, rfl⟩
        have hq2b : q2 < (j : Int) := by
          rcases lastAt_bounds d x j with h | ⟨_, h⟩ <;> omega
        rw [hq2] at c5
        have HQ2 : Hid (q2 = lastAt d x j) := Lib.hid hq2.symm
        clear hq2
        gi_wp2
        go_roundw
        case rel => exact ⟨pre ++ [j], j, q2, rfl, HQ2, HLE, HJP.out, HJ3.out⟩
        case measure => simp [intOf]; omega
      · have HX3 := Lib.hid hx3
        clear hx3
        gi_wp2
        go_end0
        exact ⟨⟨_, rfl⟩, .inr HX3.out⟩
theorem cell_lt {w : World} {a : Addr} {v : Value} (h : w.cell? a = some v) : a.block < w.heap.size := by
  obtain ⟨o, ho, _⟩ := cells_of_cell h
  exact (Array.getElem?_eq_some_iff.1 ho).1
theorem Read32.below {w w' : World} {A : Option Addr} {l : List Nat} (h : Read32 w A l) (hb : Below w.heap.size w w') : Read32 w' A l := by
  intro i hi
  obtain ⟨g, hA, hc⟩ := h i hi
  exact ⟨g, hA, (hb.cell (p := ⟨g, i, none⟩) (cell_lt hc)).trans hc⟩
set_option maxRecDepth 100000 in
set_option maxHeartbeats 1000000 in
theorem pair_seq (F : Fence) (n : Nat) (hfn : F.fn 97) (hro : F.round = none) (hn : 1 ≤ n) (A : Option Addr) (c : Nat) (l : List Nat) (b1 b2 h : Nat) (w : World)
    (hA : Read32 w A l) (hc : l.length ≤ c) (hl : l.length ≤ 100000) (hs : ∀ x ∈ l, x ≤ 100000) (hx1 : BoxAt b1 w (.int .i64 (h : Nat))) (hx2 : BoxAt b2 w (.slice A l.length c)) (hh : h ≤ l.length) :
    SeqOf F n Try.prog 97 #[PF b1, PF b2] (l.take h).reverse w := by
  intro ll J Jx W hJB hJD hXD hY h0
  have hb0 := hJB _ _ h0
  have HC : Hid (∀ W, Below w.heap.size w W → W.cell? ⟨b1, 0, none⟩ = some (.int .i64 (h : Nat)) ∧ W.cell? ⟨b2, 0, none⟩ = some (.slice A l.length c) ∧ Read32 W A l) := Lib.hid (fun W hb => by
    have hl1 : b1 < w.heap.size := by obtain ⟨t, h⟩ := hx1; exact (Array.getElem?_eq_some_iff.1 h).1
    have hl2 : b2 < w.heap.size := by obtain ⟨t, h⟩ := hx2; exact (Array.getElem?_eq_some_iff.1 h).1
    exact ⟨(hx1.keep (hb.block _ hl1)).cell, (hx2.keep (hb.block _ hl2)).cell, hA.below hb⟩)
  have HY := Lib.hid hY
  have HJB := Lib.hid hJB
  have HJD := Lib.hid hJD
  have HS := Lib.hid (fun (i : Nat) (hi : i < l.length) => hs _ (List.getElem_mem hi))
  have hci : (l.length : Int) ≤ (c : Int) := by omega
  have hli : (l.length : Int) ≤ 100000 := by omega
  have hhi : (h : Int) ≤ (l.length : Int) := by omega
  obtain ⟨c1, c2, _⟩ := HC.out W hb0
  have HX0 := Lib.hid h0
  clear hA hx1 hx2 hJB hJD hXD hY h0 hc hs
  refine callsIn_of_wp Try.func97 rfl hfn ?_ hro
  simp only [Try.ntmps97, List.size_toArray, List.length_cons, List.length_nil, Nat.reduceAdd, Nat.reduceSub, Array.replicate_succ, Array.replicate_zero, List.push_toArray, List.append_toArray, List.nil_append, List.cons_append]
  gi_wp2
  gi_loopw [4] (fun v wr => ∃ (pre : List Nat) (m : Nat), v = .int .i64 ((m : Int) - 1) ∧ Hid ((l.take h).reverse = pre ++ (l.take m).reverse) ∧ m ≤ h ∧ J pre wr) (fun v _ => (intOf v + 1).toNat)
  case atStart => exact ⟨[], h, rfl, rfl, Nat.le_refl _, HX0.out⟩
  case round =>
    obtain ⟨pre, m, rfl, HL, hm, hJs⟩ := hrel
    clear c1 c2
    have HJS := Lib.hid hJs
    cases m with
    | zero =>
      have HE : Hid (pre = (l.take h).reverse) := Lib.hid (by rw [HL.out]; simp)
      clear hJs
      gi_wp2
      refine ⟨(fun _ h => nomatch h), ?_⟩
      gi_wp2
      go_end0
      exact ⟨⟨_, rfl⟩, .inl (by rw [← HE.out]; exact HJS.out)⟩
    | succ j =>
      have hjl : j < l.length := by omega
      have e1 : (l.take (j + 1)).reverse = l[j] :: (l.take j).reverse := by
        rw [List.take_add_one, List.getElem?_eq_getElem hjl]; simp
      obtain ⟨_, c2, c3⟩ := HC.out wr (HJB.out _ _ hJs)
      obtain ⟨g, rfl, c4⟩ := c3 j hjl
      have hx := HS.out j hjl
      obtain ⟨x, hxe⟩ : ∃ x, l[j] = x := ⟨_, rfl⟩
      rw [hxe] at e1 hx c4
      obtain ⟨fn, tmps, assign, body, hy, hR⟩ := HY.out pre x (l.take j).reverse wr (by rw [HL.out, e1]) hJs
      have HLE : Hid ((l.take h).reverse = (pre ++ [x]) ++ (l.take j).reverse) := Lib.hid (by rw [HL.out, e1]; simp)
      have hji : (j : Int) < (l.length : Int) := by omega
      have hxi : (x : Int) ≤ 100000 := by omega
      have ej : ((j + 1 : Nat) : Int) - 1 = (j : Int) := by omega
      rw [ej]
      have HJH : Hid (j ≤ h) := Lib.hid (by omega)
      clear e1 c3 hJs hxe ej hm hjl hx
      gi_wp2
      refine hR.mono ?_
      rintro e W3 (⟨rfl, hJ3⟩ | ⟨rfl, hx3⟩)
      · have HJ3 := Lib.hid hJ3
        clear hJ3
        gi_wp2
        go_roundw
        case rel => exact ⟨pre ++ [x], j, rfl, HLE, HJH.out, HJ3.out⟩
        case measure => simp [intOf]
      · have HX3 := Lib.hid hx3
        clear hx3
        gi_wp2
        go_end0
        exact ⟨⟨_, rfl⟩, .inr HX3.out⟩
end Go.Proofs.Ytkckjjchfccdjaa
