/- The reference pool in memory: Many, First, Alive. -/
import Derived.Test.YtfjpggpgiojmhaaPoMath
namespace Go.Proofs.Ytfjpggpgiojmhaa
open Go.RowKit

structure RefAt (w : World) (B g : Nat) (L : List Int) (n r : Nat) : Prop where
  box : w.heap[B]? = some (.cells [.slice (some ⟨g, 0, none⟩) L.length L.length, .int .i64 (n : Nat), .int .i64 (r : Nat)].toArray 31 (0, 0))
  row : w.heap[g]? = some (.cells (L.map (Value.int .i64)).toArray 3 (0, 0))
  ne : B ≠ g
theorem RefAt.keep {w w' : World} {B g n r : Nat} {L : List Int} (h : RefAt w B g L n r) (h1 : w'.heap[B]? = w.heap[B]?) (h2 : w'.heap[g]? = w.heap[g]?) : RefAt w' B g L n r := ⟨h1.trans h.box, h2.trans h.row, h.ne⟩
theorem RefAt.lt {w : World} {B g n r : Nat} {L : List Int} (h : RefAt w B g L n r) : B < w.heap.size ∧ g < w.heap.size := ⟨(Array.getElem?_eq_some_iff.1 h.box).1, (Array.getElem?_eq_some_iff.1 h.row).1⟩
theorem RefAt.below {w w' : World} {B g n r : Nat} {L : List Int} (h : RefAt w B g L n r) (hb : Below w.heap.size w w') : RefAt w' B g L n r := h.keep (hb.block _ h.lt.1) (hb.block _ h.lt.2)
theorem RefAt.cells {w : World} {B g n r : Nat} {L : List Int} (h : RefAt w B g L n r) : w.cell? ⟨B, 0, none⟩ = some (.slice (some ⟨g, 0, none⟩) L.length L.length) ∧ w.cell? ⟨B, 1, none⟩ = some (.int .i64 (n : Nat)) ∧ w.cell? ⟨B, 2, none⟩ = some (.int .i64 (r : Nat)) := by
  refine ⟨?_, ?_, ?_⟩ <;> (rw [cell_of_row w B _ _ _ _ h.box]; rfl)
theorem RefAt.rowAt {w : World} {B g n r : Nat} {L : List Int} (h : RefAt w B g L n r) (k : Nat) (hk : k < L.length) : w.cell? ⟨g, k, none⟩ = some (.int .i64 L[k]) ∧ w.frozen? ⟨g, k, none⟩ = false := by
  constructor
  · rw [cell_of_row w g _ _ _ _ h.row]; simp [hk]
  · simp [World.frozen?, h.row]
theorem RefAt.set {w : World} {B g n r : Nat} {L : List Int} (h : RefAt w B g L n r) (k : Nat) (x : Int) : RefAt (w.setCell ⟨g, k, none⟩ (.int .i64 x)) B g (L.set k x) n r := by
  refine ⟨?_, ?_, h.ne⟩
  · simp only [List.length_set]
    exact (heap_setCell_other _ _ _ _ h.ne).trans h.box
  · rw [List.map_set]; exact heap_set h.row k _
theorem count_take {L : List Int} {k : Int} {i : Nat} (h : i < L.length) : (L.take (i + 1)).count k = (L.take i).count k + (if L[i] = k then 1 else 0) := by
  rw [List.take_add_one, List.getElem?_eq_getElem h, List.count_append]
  simp [List.count_cons]
set_option maxRecDepth 100000 in
set_option maxHeartbeats 1000000 in
theorem many_any (B g n r : Nat) (L : List Int) (k : Int) (w : World) (hR : RefAt w B g L n r) (hl : L.length ≤ 10000) :
    Calls Try.prog 16 #[PV B, .int .i64 k] w fun e w' => e = .returned (.int .i64 (L.count k : Nat)) ∧ w = w' := by
  obtain ⟨c0, _, _⟩ := hR.cells
  have HR := Lib.hid hR
  have hli : (L.length : Int) ≤ 10000 := by omega
  clear hR
  go_enter Try.func16, Try.ntmps16
  go_wp2_with fail
  go_loopw [5, 6] (fun c i wr => ∃ (q m : Nat), q ≤ L.length ∧ i = .int .i64 (q : Nat) ∧ c = .int .i64 (m : Nat) ∧ m ≤ q ∧ Hid (m = (L.take q).count k) ∧ wr = w) (fun _ i _ => L.length - (intOf i).toNat)
  case atStart => exact ⟨0, 0, by omega, rfl, rfl, by omega, Lib.hid (by simp), rfl⟩
  case round =>
    obtain ⟨q, m, hq, rfl, rfl, hmq, HM, rfl⟩ := hrel
    by_cases hql : q < L.length
    · have hqi : (q : Int) < (L.length : Int) := by omega
      obtain ⟨c1, _⟩ := HR.out.rowAt q hql
      have HT := Lib.hid (count_take (k := k) hql)
      generalize L[q] = x at *
      by_cases hx : x = k
      · have HM2 : Hid (m + 1 = (L.take (q + 1)).count k) := Lib.hid (by rw [HT.out, if_pos hx, HM.out])
        subst hx
        go_wp2_with fail
        exact ⟨⟨q + 1, m + 1, by omega, by go_num, by go_num, by omega, HM2, by trivial⟩, by simp [intOf]; omega⟩
      · have HM2 : Hid (m = (L.take (q + 1)).count k) := Lib.hid (by rw [HT.out, if_neg hx, HM.out]; rfl)
        go_wp2_with fail
        exact ⟨⟨q + 1, m, by omega, by go_num, rfl, by omega, HM2, by trivial⟩, by simp [intOf]; omega⟩
    · obtain rfl : q = L.length := by omega
      have HM2 : Hid (m = L.count k) := Lib.hid (by rw [HM.out, List.take_length])
      go_wp2_with fail
      go_ret
      exact ⟨by rw [HM2.out]; rfl, rfl⟩
/-- The first job at a place. -/
def FirstIs (L : List Int) (k z : Int) : Prop := (z = -1 ∧ ∀ q (h : q < L.length), L[q] ≠ k) ∨ ∃ i : Nat, z = (i : Int) ∧ ∃ h : i < L.length, L[i] = k ∧ ∀ q (hq : q < i), L[q] ≠ k
set_option maxRecDepth 100000 in
set_option maxHeartbeats 1000000 in
theorem first_any (B g n r : Nat) (L : List Int) (k : Int) (w : World) (hR : RefAt w B g L n r) (hl : L.length ≤ 10000) :
    Calls Try.prog 26 #[PV B, .int .i64 k] w fun e w' => ∃ z, e = .returned (.int .i64 z) ∧ FirstIs L k z ∧ w = w' := by
  obtain ⟨c0, _, _⟩ := hR.cells
  have HR := Lib.hid hR
  have hli : (L.length : Int) ≤ 10000 := by omega
  clear hR
  go_enter Try.func26, Try.ntmps26
  go_wp2_with fail
  go_loopw [5] (fun i wr => ∃ (q : Nat), q ≤ L.length ∧ i = .int .i64 (q : Nat) ∧ Hid (∀ j (hj : j < q) (hl : j < L.length), L[j] ≠ k) ∧ wr = w) (fun i _ => L.length - (intOf i).toNat)
  case atStart => exact ⟨0, by omega, rfl, Lib.hid (fun j hj => by omega), rfl⟩
  case round =>
    obtain ⟨q, hq, rfl, HM, rfl⟩ := hrel
    by_cases hql : q < L.length
    · have hqi : (q : Int) < (L.length : Int) := by omega
      obtain ⟨c1, _⟩ := HR.out.rowAt q hql
      obtain ⟨x, hx⟩ : ∃ x, L[q] = x := ⟨_, rfl⟩
      rw [hx] at c1
      have HX := Lib.hid hx
      clear hx
      by_cases hx : x = k
      · subst hx
        go_wp2_with fail
        go_ret
        exact ⟨_, rfl, .inr ⟨q, rfl, hql, HX.out, fun j hj => HM.out j hj (by omega)⟩, rfl⟩
      · have HM2 : Hid (∀ j (hj : j < q + 1) (hl : j < L.length), L[j] ≠ k) := Lib.hid (fun j hj hl => by
          rcases Nat.lt_or_ge j q with h | h
          · exact HM.out j h hl
          · obtain rfl : j = q := by omega
            rw [HX.out]; exact hx)
        go_wp2_with fail
        exact ⟨⟨q + 1, by omega, by go_num, HM2, by trivial⟩, by simp [intOf]; omega⟩
    · obtain rfl : q = L.length := by omega
      go_wp2_with fail
      go_ret
      exact ⟨_, rfl, .inl ⟨rfl, fun j hj => HM.out j hj hj⟩, rfl⟩
theorem many_quiet (B g n r : Nat) (L : List Int) (k : Int) (w : World) (a : Nat) (hR : RefAt w B g L n r) (hl : L.length ≤ 10000) :
    Calls Try.prog 16 #[PV B, .int .i64 k] (w.drewN a) fun e w' => e = .returned (.int .i64 (L.count k : Nat)) ∧ ∃ n, w' = w.drewN n :=
  (many_any B g n r L k (w.drewN a) (hR.keep rfl rfl) hl).mono fun _ _ ⟨he, hm⟩ => ⟨he, a, hm.symm⟩
set_option maxRecDepth 100000 in
set_option maxHeartbeats 1000000 in
theorem ralive_any (B g n r : Nat) (L : List Int) (w : World) (hR : RefAt w B g L n r) (hl : L.length ≤ 10000) (x : Nat) (hx : L.count 0 + L.count 3 + x = L.length) :
    Calls Try.prog 14 #[PV B] w fun e w' => e = .returned (.int .i64 (x : Nat)) ∧ ∃ m, w' = w.drewN m := by
  obtain ⟨c0, _, _⟩ := hR.cells
  have hli : (L.length : Int) ≤ 10000 := by omega
  have HM := Lib.hid (fun k a => many_quiet B g n r L k w a hR hl)
  have hxi : (L.length : Int) - (L.count 0 : Nat) - (L.count 3 : Nat) = (x : Int) := by omega
  have h0 : (L.count 0 : Int) ≤ (L.length : Int) := by omega
  have h3 : (L.count 3 : Int) ≤ (L.length : Int) - (L.count 0 : Nat) := by omega
  rw [← hxi]
  go_enter Try.func14, Try.ntmps14
  go_wp2_with fail
  go_quiet (exact HM.out _ _)
  go_wp2_with fail
  go_ret
  exact ⟨by rw [hxi]; rfl, _, rfl⟩
theorem ralive_quiet (B g n r : Nat) (L : List Int) (w : World) (a : Nat) (hR : RefAt w B g L n r) (hl : L.length ≤ 10000) (x : Nat) (hx : L.count 0 + L.count 3 + x = L.length) :
    Calls Try.prog 14 #[PV B] (w.drewN a) fun e w' => e = .returned (.int .i64 (x : Nat)) ∧ ∃ m, w' = w.drewN m :=
  (ralive_any B g n r L (w.drewN a) (hR.keep rfl rfl) hl x hx).mono fun _ _ ⟨he, m, hm⟩ => ⟨he, a + m, by rw [hm, World.drewN_drewN]⟩
/-- What can be read of a slice of numbers. -/
def ReadI (w : World) (A : Option Addr) (l : List Nat) : Prop := ∀ i (h : i < l.length), ∃ g, A = some ⟨g, 0, none⟩ ∧ w.cell? ⟨g, i, none⟩ = some (.int .i64 (l[i] : Nat))
set_option maxRecDepth 100000 in
set_option maxHeartbeats 1000000 in
theorem ints_any (l : List Nat) (A A' : Option Addr) (c c' : Nat) (w : World) (hA : ReadI w A l) (hA' : ReadI w A' l) (hl : l.length ≤ 10000) (hc : l.length ≤ c) (hm : c ≤ 9223372036854775807) :
    Calls Try.prog 8 #[.slice A l.length c, .slice A' l.length c'] w fun e w' => e = .returned (.bool true) ∧ ∃ m, w' = w.drewN m := by
  have hli : (l.length : Int) ≤ 10000 := by omega
  have H1 := Lib.hid hA
  have H2 := Lib.hid hA'
  clear hA hA'
  go_enter Try.func8, Try.ntmps8
  go_wp2_with fail
  go_loopw [5] (fun i wr => ∃ (q m : Nat), q ≤ l.length ∧ i = .int .i64 (q : Nat) ∧ wr = w.drewN m) (fun i _ => l.length - (intOf i).toNat)
  case atStart => exact ⟨0, 0, by omega, rfl, rfl⟩
  case round =>
    obtain ⟨q, m, hq, rfl, rfl⟩ := hrel
    by_cases hql : q < l.length
    · have hqi : (q : Int) < (l.length : Int) := by omega
      obtain ⟨g, rfl, c1⟩ := H1.out q hql
      obtain ⟨g', rfl, c2⟩ := H2.out q hql
      generalize l[q] = x at *
      go_wp2_with fail
      go_quiet (fail)
      go_wp2_with fail
      exact ⟨⟨q + 1, _, by omega, by go_num, rfl⟩, by simp [intOf]; omega⟩
    · obtain rfl : q = l.length := by omega
      go_wp2_with fail
      go_ret
      exact ⟨rfl, _, rfl⟩
end Go.Proofs.Ytfjpggpgiojmhaa
