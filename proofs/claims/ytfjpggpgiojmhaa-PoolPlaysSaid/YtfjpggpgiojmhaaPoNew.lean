/- pool.New, Out. -/
import Derived.Test.YtfjpggpgiojmhaaPoStp
namespace Go.Proofs.Ytfjpggpgiojmhaa
open Go.RowKit

theorem heap_of_full {w : World} {base n : Nat} {t : TypeId} {g : Nat} {xs : List Value} (h : w.ownsRow base t 1 (.slice (some ⟨g, 0, none⟩) n n) n xs) : w.heap[g]? = some (.cells xs.toArray t (0, 0)) := by
  obtain ⟨hl, ⟨h, _⟩ | ⟨g', cap, cur, e, _, hg, _, _, hsz, ht⟩⟩ := h
  · cases h
  · injection e with e1 _ e3
    injection e1 with e1
    injection e1 with e1
    subst e1; subst e3
    rw [Nat.mul_one] at hl hsz ht
    have : cur.toList = xs := by rw [← ht, List.take_of_length_le (by simp; omega)]
    rw [hg, ← this]
theorem madeI (n : Nat) : (madeCells (Value.int .i64 0).cells (n * 1)).toList = List.replicate n (Value.int .i64 0) := by
  rw [Nat.mul_one, show (Value.int .i64 0).cells = #[Value.int .i64 0] from rfl, toList_madeCells_one]
theorem infoI : (Try.prog.info? 3).map (fun i => (i.zero, i.size, i.bytes)) = some (some (.int .i64 0), 1, 8) := by kernel_rfl
theorem wpList_make_ints {ops : Array Oper} {rest : List Oper} {o : Oper} {a : Act} {Q : Exit → Act → World → Prop} (hgd : o.guard = none) (x y : Operand) (ho : o.op = .makeSlice 22 x y)
    (n : Nat) (w : World) (hx : a.eval x = .int .i64 (n : Nat)) (hy : a.eval y = .int .i64 (n : Nat)) (hn : n ≤ 1000000)
    (h : ∀ w', w'.heap[w.heap.size]? = some (.cells (List.replicate n (Value.int .i64 0)).toArray 3 (0, 0)) → w.grownBy w' none → wpList Try.prog ops Q rest (a.put o.dst (.slice (some ⟨w.heap.size, 0, none⟩) n n)) w') : wpList Try.prog ops Q (o :: rest) a w := by
  refine wpList_plain hgd fun K hK => ?_
  obtain ⟨i, hi, hz0, hz1, hz2⟩ := info_parts infoI
  obtain ⟨w', hr, h1, h2⟩ := run_make_full (P := Try.prog) w w.heap.size 22 3 i (.int .i64 0) 1 Try.underlying22 hi hz0 hz1 .i64 .i64 n (by rw [hz2]; omega) (by unfold maxLen; omega) (Nat.le_refl _)
  rw [madeI] at h1
  unfold Oper.wp execOp
  simp only [ho, hx, hy, Sem.run_bind, Sem.run_pure, Result.andThen_ok, hr]
  exact hK _ _ (h w' (heap_of_full h1) h2)
def withinB (n lo hi : Int) : Bool := decide (lo ≤ n) && decide (n ≤ hi)
theorem within_any (n lo hi : Int) (w : World) : Calls Try.prog 19 #[.int .i64 n, .int .i64 lo, .int .i64 hi] w fun e w' => e = .returned (.bool (withinB n lo hi)) ∧ w = w' := by
  unfold withinB
  by_cases h1 : lo ≤ n
  · by_cases h2 : n ≤ hi
    · have e : (decide (lo ≤ n) && decide (n ≤ hi)) = true := by simp [h1, h2]
      rw [e]
      go_enter Try.func19, Try.ntmps19
      go_wp2_with fail
      go_ret
      exact ⟨rfl, rfl⟩
    · have e : (decide (lo ≤ n) && decide (n ≤ hi)) = false := by simp [h2]
      rw [e]
      go_enter Try.func19, Try.ntmps19
      go_wp2_with fail
      go_ret
      exact ⟨rfl, rfl⟩
  · have e : (decide (lo ≤ n) && decide (n ≤ hi)) = false := by simp [h1]
    rw [e]
    go_enter Try.func19, Try.ntmps19
    go_wp2_with fail
    go_ret
    exact ⟨rfl, rfl⟩
def fairB (j n r : Int) : Bool := withinB j 0 10000 && withinB n 1 64 && withinB r 1 64
def PoolM.fresh (J n R : Nat) : PoolM := ⟨J, R, 0, 0, 0, List.replicate n (-1), fun _ => false, 0⟩
def NewDone (j n r : Int) (w : World) (e : Ending) (w' : World) : Prop :=
  Below w.heap.size w w' ∧ ((fairB j n r = false ∧ e = .returned (.tuple #[.pointer none, .int .i64 1])) ∨
    (fairB j n r = true ∧ ∃ B hb mb, e = .returned (.tuple #[PV B, .int .i64 0]) ∧ PoolAt w' B hb mb (PoolM.fresh j.toNat n.toNat r.toNat) ∧ w.heap.size ≤ B ∧ w.heap.size ≤ hb ∧ w.heap.size ≤ mb))
theorem half_set (n j : Nat) (hj : j < n) (x : Value) : ((List.replicate j x) ++ List.replicate (n - j) (Value.int .i64 0)).set j x = List.replicate (j + 1) x ++ List.replicate (n - (j + 1)) (Value.int .i64 0) := by
  have e : n - j = (n - (j + 1)) + 1 := by omega
  rw [e, List.replicate_succ, List.set_append_right _ _ (by simp), List.length_replicate, Nat.sub_self, List.set_cons_zero, List.replicate_succ', List.append_assoc]
  rfl
set_option maxRecDepth 100000 in
set_option maxHeartbeats 1000000 in
theorem New_any (j n r : Int) (w : World) : Calls Try.prog 6 #[.int .i64 j, .int .i64 n, .int .i64 r] w (NewDone j n r w) := by
  have H1 := Lib.hid (within_any j 0 10000)
  have H2 := Lib.hid (within_any n 1 64)
  have H3 := Lib.hid (within_any r 1 64)
  have HF : Hid (fairB j n r = (withinB j 0 10000 && withinB n 1 64 && withinB r 1 64)) := Lib.hid rfl
  cases h1 : withinB j 0 10000 with
  | false =>
    rw [h1] at H1 HF
    have HNO : Hid (fairB j n r = false) := Lib.hid (by rw [HF.out]; rfl)
    go_enter Try.func6, Try.ntmps6
    go_wp2_with fail
    refine (H1.out w).mono ?_
    rintro e w1 ⟨rfl, rfl⟩
    go_wp2_with fail
    go_ret2
    exact ⟨Below.refl _ _, .inl ⟨HNO.out, rfl⟩⟩
  | true =>
  rw [h1] at H1 HF
  cases h2 : withinB n 1 64 with
  | false =>
    rw [h2] at H2 HF
    have HNO : Hid (fairB j n r = false) := Lib.hid (by rw [HF.out]; rfl)
    go_enter Try.func6, Try.ntmps6
    go_wp2_with fail
    refine (H1.out w).mono ?_
    rintro e w1 ⟨rfl, rfl⟩
    go_wp2_with fail
    refine (H2.out w).mono ?_
    rintro e w1 ⟨rfl, rfl⟩
    go_wp2_with fail
    go_ret2
    exact ⟨Below.refl _ _, .inl ⟨HNO.out, rfl⟩⟩
  | true =>
  rw [h2] at H2 HF
  cases h3 : withinB r 1 64 with
  | false =>
    rw [h3] at H3 HF
    have HNO : Hid (fairB j n r = false) := Lib.hid (by rw [HF.out]; rfl)
    go_enter Try.func6, Try.ntmps6
    go_wp2_with fail
    refine (H1.out w).mono ?_
    rintro e w1 ⟨rfl, rfl⟩
    go_wp2_with fail
    refine (H2.out w).mono ?_
    rintro e w1 ⟨rfl, rfl⟩
    go_wp2_with fail
    refine (H3.out w).mono ?_
    rintro e w1 ⟨rfl, rfl⟩
    go_wp2_with fail
    go_ret2
    exact ⟨Below.refl _ _, .inl ⟨HNO.out, rfl⟩⟩
  | true =>
  rw [h3] at H3 HF
  have HYES : Hid (fairB j n r = true) := Lib.hid (by rw [HF.out]; rfl)
  obtain ⟨J, hJ, hJb⟩ : ∃ J : Nat, j = (J : Int) ∧ J ≤ 10000 := by simp [withinB] at h1; exact ⟨j.toNat, by omega, by omega⟩
  obtain ⟨N, hN, hN1, hNb⟩ : ∃ N : Nat, n = (N : Int) ∧ 1 ≤ N ∧ N ≤ 64 := by simp [withinB] at h2; exact ⟨n.toNat, by omega, by omega, by omega⟩
  obtain ⟨R, hR, hRb⟩ : ∃ R : Nat, r = (R : Int) ∧ R ≤ 64 := by simp [withinB] at h3; exact ⟨r.toNat, by omega, by omega⟩
  subst hJ; subst hN; subst hR
  have hNi : (N : Int) ≤ 64 := by omega
  clear h1 h2 h3 HF
  go_enter Try.func6, Try.ntmps6
  go_wp2_with fail
  refine (H1.out w).mono ?_
  rintro e w1 ⟨rfl, rfl⟩
  go_wp2_with fail
  refine (H2.out w).mono ?_
  rintro e w1 ⟨rfl, rfl⟩
  go_wp2_with fail
  refine (H3.out w).mono ?_
  rintro e w1 ⟨rfl, rfl⟩
  have hN6 : N ≤ 1000000 := by omega
  go_wp2_with (at_make; refine wpList_make_ints rfl (.tmp 27) (.tmp 27) rfl N w rfl rfl hN6 ?_; intro w1 hrow hg)
  have hb1 : Below w.heap.size w w1 := below_grown (Below.refl _ _) hg (Nat.le_refl _) (fun g e => by cases e)
  have HROW := Lib.hid hrow
  have HB1 := Lib.hid hb1
  clear hrow hg hb1
  go_loopw [31] (fun i wr => ∃ k : Nat, k ≤ N ∧ i = .int .i64 (k : Nat) ∧ Hid (wr.heap[w.heap.size]? = some (.cells (List.replicate k (Value.int .i64 (-1)) ++ List.replicate (N - k) (Value.int .i64 0)).toArray 3 (0, 0))) ∧ Hid (Below w.heap.size w wr)) (fun i _ => N - (intOf i).toNat)
  case atStart => exact ⟨0, by omega, rfl, Lib.hid (by rw [Nat.sub_zero]; exact HROW.out), HB1⟩
  case round =>
    obtain ⟨k, hk, rfl, HR, HB⟩ := hrel
    by_cases hkl : k < N
    · have hki : (k : Int) < (N : Int) := by omega
      have c1 : wr.cell? ⟨w.heap.size, k, none⟩ = some (.int .i64 0) := by
        rw [cell_of_row wr _ _ _ _ _ HR.out, List.getElem?_toArray, List.getElem?_append_right (by simp), List.length_replicate, Nat.sub_self, List.getElem?_replicate, if_pos (by omega)]
      have f1 : wr.frozen? ⟨w.heap.size, k, none⟩ = false := by simp [World.frozen?, HR.out]
      have HR2 := Lib.hid (heap_set HR.out k (.int .i64 (-1)))
      rw [half_set N k hkl] at HR2
      clear HROW HB1
      go_wp2_with fail
      exact ⟨⟨k + 1, by omega, by go_num, HR2, Lib.hid (Below.setCell (p := ⟨w.heap.size, k, none⟩) HB.out (Nat.le_refl _) _)⟩, by simp [intOf]; omega⟩
    · obtain rfl : k = N := by omega
      rw [Nat.sub_self, List.replicate_zero, List.append_nil] at HR
      clear HROW HB1
      have hmm : ∀ w : World, (Instr.makeMap 41 none).run Try.prog w = .ok (.map (some w.heap.size)) (w.alloc (.map #[] 0)) := fun w => run_makeMap _ w
      go_wp2_with fail
      go_ret2
      have hlt : w.heap.size < wr.heap.size := (Array.getElem?_eq_some_iff.1 HR.out).1
      have hm1 : Below wr.heap.size wr (wr.alloc (.map #[] 0)) := (Below.refl _ _).alloc (Nat.le_refl _) _
      have hm2 : Below wr.heap.size wr ((wr.alloc (.map #[] 0)).alloc (.cells #[.int .i64 (J : Nat), .int .i64 (R : Nat), .int .i64 0, .int .i64 0, .int .i64 0, .slice (some ⟨w.heap.size, 0, none⟩) k k, .map (some wr.heap.size)] 43)) := hm1.alloc (by simp) _
      have hset : SetAt ((wr.alloc (.map #[] 0)).alloc (.cells #[.int .i64 (J : Nat), .int .i64 (R : Nat), .int .i64 0, .int .i64 0, .int .i64 0, .slice (some ⟨w.heap.size, 0, none⟩) k k, .map (some wr.heap.size)] 43)) wr.heap.size (fun _ => false) 0 :=
        (SetAt.made wr).keep (Below.heap_alloc _ _ _ (by simp))
      have hbox := heap_alloc_last (wr.alloc (.map #[] 0)) (.cells #[.int .i64 (J : Nat), .int .i64 (R : Nat), .int .i64 0, .int .i64 0, .int .i64 0, .slice (some ⟨w.heap.size, 0, none⟩) k k, .map (some wr.heap.size)] 43)
      rw [World.size_alloc] at hbox
      refine ⟨HB.out.trans (hm2.mono HB.out.size), .inr ⟨HYES.out, wr.heap.size + 1, w.heap.size, wr.heap.size, rfl, ⟨?_, ?_, hset, by omega, by omega, by omega⟩, by omega, Nat.le_refl _, HB.out.size⟩⟩
      · simp only [PoolM.fresh, Int.toNat_natCast, List.length_replicate]
        exact hbox
      · simp only [PoolM.fresh, Int.toNat_natCast, List.map_replicate]
        exact (hm2.block _ hlt).trans HR.out
def OutDone (c : Nat) (w : World) (e : Ending) (w' : World) : Prop := ∃ g, e = .returned (.slice (some ⟨g, 0, none⟩) c c) ∧ w'.heap[g]? = some (.cells (intsV (List.range c)).toArray 3 (0, 0)) ∧ w.heap.size ≤ g ∧ Below w.heap.size w w'
theorem range_set (n j : Nat) (hj : j < n) : ((intsV (List.range j)) ++ List.replicate (n - j) (Value.int .i64 0)).set j (.int .i64 (j : Nat)) = intsV (List.range (j + 1)) ++ List.replicate (n - (j + 1)) (Value.int .i64 0) := by
  have e : n - j = (n - (j + 1)) + 1 := by omega
  rw [e, List.replicate_succ, List.set_append_right _ _ (by simp [intsV]), intsV_len, List.length_range, Nat.sub_self, List.set_cons_zero, List.range_succ, intsV_snoc, List.append_assoc]
  rfl
set_option maxRecDepth 100000 in
set_option maxHeartbeats 1000000 in
theorem Out_any (B hb mb : Nat) (P : PoolM) (w : World) (hP : PoolAt w B hb mb P) (hc : P.c ≤ 10000) : Calls Try.prog 17 #[PV B] w (OutDone P.c w) := by
  obtain ⟨_, _, _, _, c4, _, _⟩ := hP.cells
  generalize P.c = N at *
  have hNi : (N : Int) ≤ 10000 := by omega
  have hN6 : N ≤ 1000000 := by omega
  go_enter Try.func17, Try.ntmps17
  go_wp2_with (at_make; refine wpList_make_ints rfl (.tmp 10) (.tmp 10) rfl N w rfl rfl hN6 ?_; intro w1 hrow hg)
  have hb1 : Below w.heap.size w w1 := below_grown (Below.refl _ _) hg (Nat.le_refl _) (fun g e => by cases e)
  have HROW := Lib.hid hrow
  have HB1 := Lib.hid hb1
  clear hrow hg hb1
  go_loopw [14] (fun i wr => ∃ k : Nat, k ≤ N ∧ i = .int .i64 (k : Nat) ∧ Hid (wr.heap[w.heap.size]? = some (.cells (intsV (List.range k) ++ List.replicate (N - k) (Value.int .i64 0)).toArray 3 (0, 0))) ∧ Hid (Below w.heap.size w wr)) (fun i _ => N - (intOf i).toNat)
  case atStart => exact ⟨0, by omega, rfl, Lib.hid (by rw [Nat.sub_zero]; exact HROW.out), HB1⟩
  case round =>
    obtain ⟨k, hk, rfl, HR, HB⟩ := hrel
    by_cases hkl : k < N
    · have hki : (k : Int) < (N : Int) := by omega
      have c1 : wr.cell? ⟨w.heap.size, k, none⟩ = some (.int .i64 0) := by
        rw [cell_of_row wr _ _ _ _ _ HR.out, List.getElem?_toArray, List.getElem?_append_right (by simp [intsV]), intsV_len, List.length_range, Nat.sub_self, List.getElem?_replicate, if_pos (by omega)]
      have f1 : wr.frozen? ⟨w.heap.size, k, none⟩ = false := by simp [World.frozen?, HR.out]
      have HR2 := Lib.hid (heap_set HR.out k (.int .i64 (k : Nat)))
      rw [range_set N k hkl] at HR2
      clear HROW HB1
      go_wp2_with fail
      exact ⟨⟨k + 1, by omega, by go_num, HR2, Lib.hid (Below.setCell (p := ⟨w.heap.size, k, none⟩) HB.out (Nat.le_refl _) _)⟩, by simp [intOf]; omega⟩
    · obtain rfl : k = N := by omega
      rw [Nat.sub_self, List.replicate_zero, List.append_nil] at HR
      clear HROW HB1
      go_wp2_with fail
      go_ret
      exact ⟨w.heap.size, rfl, HR.out, Nat.le_refl _, HB.out⟩
end Go.Proofs.Ytfjpggpgiojmhaa
