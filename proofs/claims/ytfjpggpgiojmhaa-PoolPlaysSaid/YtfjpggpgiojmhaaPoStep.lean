/- pool's steps: who may go on. -/
import Derived.Test.YtfjpggpgiojmhaaPoSteps
import Derived.Deep.DeepCutAuto
namespace Go.Proofs.Ytfjpggpgiojmhaa
open Go.RowKit

/-- Numbers of a pool that are small, in order. -/
structure PoolM.Ok (P : PoolM) : Prop where
  J : P.J ≤ 10000
  R : P.R ≤ 64
  n : P.held.length ≤ 64
  ct : P.c ≤ P.t
  ts : P.t ≤ P.s
  sJ : P.s ≤ P.J
set_option maxRecDepth 100000 in
set_option maxHeartbeats 400000 in
theorem alive_any (B hb mb : Nat) (P : PoolM) (w : World) (hP : PoolAt w B hb mb P) (hok : P.Ok) :
    Calls Try.prog 13 #[PV B] w fun e w' => e = .returned (.int .i64 ((P.s - P.c : Nat) : Int)) ∧ ∃ m, w' = w.drewN m := by
  obtain ⟨_, _, c2, _, c4, _, _⟩ := hP.cells
  have h1 : ((P.s - P.c : Nat) : Int) = (P.s : Int) - (P.c : Int) := by have := hok.ct; have := hok.ts; omega
  have hs : (P.s : Int) ≤ 10000 := by have := hok.sJ; have := hok.J; omega
  have hc : (P.c : Int) ≤ (P.s : Int) := by have := hok.ct; have := hok.ts; omega
  rw [h1]
  go_enter Try.func13, Try.ntmps13
  go_wp2_with fail
  go_quiet (fail)
  go_wp2_with fail
  go_ret
  exact ⟨rfl, _, rfl⟩
theorem alive_quiet (B hb mb : Nat) (P : PoolM) (w : World) (k a : Nat) (hP : PoolAt w B hb mb P) (hok : P.Ok) :
    Calls Try.prog 13 #[PV B] (w.drewN (k + a)) fun e w' => e = .returned (.int .i64 ((P.s - P.c : Nat) : Int)) ∧ ∃ n, w' = w.drewN (k + n) :=
  (alive_any B hb mb P (w.drewN (k + a)) (hP.keep rfl rfl rfl) hok).mono fun _ _ ⟨he, m, hm⟩ => ⟨he, a + m, by rw [hm, World.drewN_drewN, Nat.add_assoc]⟩
set_option maxRecDepth 100000 in
set_option maxHeartbeats 400000 in
theorem waiting_any (B hb mb : Nat) (P : PoolM) (w : World) (hP : PoolAt w B hb mb P) :
    Calls Try.prog 15 #[PV B] w fun e w' => e = .returned (.int .i64 (P.m : Nat)) ∧ w = w' := by
  obtain ⟨_, _, _, _, _, _, c6⟩ := hP.cells
  have hl := hP.set.len 3
  go_enter Try.func15, Try.ntmps15
  go_wp2_with fail
  go_ret
  exact ⟨rfl, rfl⟩
set_option maxRecDepth 100000 in
set_option maxHeartbeats 400000 in
theorem done_any (B hb mb : Nat) (P : PoolM) (w : World) (hP : PoolAt w B hb mb P) :
    Calls Try.prog 18 #[PV B] w fun e w' => e = .returned (.bool (P.c == P.J)) ∧ ∃ m, w' = w.drewN m := by
  obtain ⟨c0, _, _, _, c4, _, _⟩ := hP.cells
  have h1 : ((P.c : Int) == (P.J : Int)) = (P.c == P.J) := by rw [Bool.eq_iff_iff]; simp; omega
  go_enter Try.func18, Try.ntmps18
  go_wp2_with fail
  go_quiet (fail)
  go_wp2_with fail
  go_ret
  exact ⟨rfl, _, rfl⟩
set_option maxRecDepth 100000 in
set_option maxHeartbeats 400000 in
theorem done_nil (w : World) : Calls Try.prog 18 #[.pointer none] w fun e w' => e = .returned (.bool false) ∧ ∃ m, w' = w.drewN m := by
  go_enter Try.func18, Try.ntmps18
  go_wp2_with fail
  go_quiet (fail)
  go_wp2_with fail
  go_ret
  exact ⟨rfl, _, rfl⟩
set_option maxRecDepth 100000 in
set_option maxHeartbeats 400000 in
theorem collector_any (B hb mb : Nat) (P : PoolM) (w : World) (hP : PoolAt w B hb mb P) (hn : P.held.length ≤ 64) :
    Calls Try.prog 20 #[PV B] w fun e w' => e = .returned (.int .i64 ((P.held.length : Int) + 1)) ∧ w = w' := by
  obtain ⟨_, _, _, _, _, c5, _⟩ := hP.cells
  have hni : (P.held.length : Int) ≤ 64 := by omega
  go_enter Try.func20, Try.ntmps20
  go_wp2_with fail
  go_ret
  exact ⟨rfl, rfl⟩
/-- May the splitter go on? -/
def PoolM.splitB (P : PoolM) : Bool := !(P.s == P.J) && !(P.s - P.t == P.R) && !(P.s - P.c == P.held.length + P.R + 1)
def SplitDone (B : Nat) (P : PoolM) (w : World) (e : Ending) (w' : World) : Prop :=
  Below w.heap.size w w' ∧ ((P.splitB = false ∧ e = .returned .nilFunc) ∨ (P.splitB = true ∧ ∃ b1, e = .returned (.func (.func 27) #[] #[PV b1]) ∧ BoxAt b1 w' (PV B) ∧ w.heap.size ≤ b1))
theorem SplitDone.no {B : Nat} {P : PoolM} {w w' : World} (h : P.splitB = false) (hb : Below w.heap.size w w') : SplitDone B P w (.returned .nilFunc) w' := ⟨hb, .inl ⟨h, rfl⟩⟩
theorem SplitDone.yes {B b1 : Nat} {P : PoolM} {w w' : World} (h : P.splitB = true) (hb : Below w.heap.size w w') (hx : BoxAt b1 w' (PV B)) (hl : w.heap.size ≤ b1) : SplitDone B P w (.returned (.func (.func 27) #[] #[PV b1])) w' := ⟨hb, .inr ⟨h, b1, rfl, hx, hl⟩⟩
set_option maxRecDepth 100000 in
set_option maxHeartbeats 1000000 in
theorem splitStep_any (B hb mb : Nat) (P : PoolM) (w : World) (hP : PoolAt w B hb mb P) (hok : P.Ok) :
    Calls Try.prog 23 #[PV B] w (SplitDone B P w) := by
  obtain ⟨W0, hW0⟩ : ∃ W0, w.alloc (.cells #[PV B] 24) = W0 := ⟨_, rfl⟩
  have hb0 : Below w.heap.size w W0 := by rw [← hW0]; exact (Below.refl _ _).alloc (Nat.le_refl _) _
  have hx0 : BoxAt w.heap.size W0 (PV B) := by rw [← hW0]; exact BoxAt.made _ _ _
  have hP0 := hP.below hb0
  have HW0 := Lib.hid hW0
  have HB0 := Lib.hid hb0
  have HX0 := Lib.hid hx0
  have HAL := Lib.hid (fun k a => alive_quiet B hb mb P W0 k a hP0 hok)
  obtain ⟨c0, c1, c2, c3, c4, c5, _⟩ := hP0.cells
  have x0 := hx0.cell
  have hn : (P.held.length : Int) ≤ 64 := by have := hok.n; omega
  have hR : (P.R : Int) ≤ 64 := by have := hok.R; omega
  have hs : (P.s : Int) ≤ 10000 := by have := hok.sJ; have := hok.J; omega
  have ht : (P.t : Int) ≤ (P.s : Int) := by have := hok.ts; omega
  have HS : Hid (P.splitB = (!(P.s == P.J) && !(P.s - P.t == P.R) && !(P.s - P.c == P.held.length + P.R + 1))) := Lib.hid rfl
  have hts := hok.ts
  have hwr : IntKind.i64.wrap ((P.s : Int) - (P.t : Int)) = (P.s : Int) - (P.t : Int) := IntWalk.i64_in _ (by omega)
  clear hW0 hb0 hx0 hP0
  cases h1 : (P.s == P.J) with
  | true =>
    have HNO : Hid (P.splitB = false) := Lib.hid (by rw [HS.out, h1]; rfl)
    have h1i : ((P.s : Int) == (P.J : Int)) = true := by simp at h1 ⊢; omega
    clear h1
    go_enter Try.func23, Try.ntmps23
    go_upto_region 1 with fail
    rw [HW0.out]
    clear HW0
    go_quiet (fail)
    go_wp2_with fail
    go_quiet (fail)
    go_wp2_with fail
    go_ret
    exact SplitDone.no HNO.out (below_drewN (below_drewN HB0.out _) _)
  | false =>
    have h1i : ((P.s : Int) == (P.J : Int)) = false := by simp at h1 ⊢; omega
    cases h2 : (P.s - P.t == P.R) with
    | true =>
      have h2i : ((P.s : Int) - (P.t : Int) == (P.R : Int)) = true := by simp at h2 ⊢; omega
      have HNO : Hid (P.splitB = false) := Lib.hid (by rw [HS.out, h1, h2]; rfl)
      clear h1 h2
      go_enter Try.func23, Try.ntmps23
      go_upto_region 1 with fail
      rw [HW0.out]
      clear HW0
      go_quiet (fail)
      go_wp2_with fail
      go_quiet (fail)
      go_wp2_with fail
      go_ret
      exact SplitDone.no HNO.out (below_drewN (below_drewN HB0.out _) _)
    | false =>
      have h2i : ((P.s : Int) - (P.t : Int) == (P.R : Int)) = false := by simp at h2 ⊢; omega
      have hcs : P.c ≤ P.s := Nat.le_trans hok.ct hok.ts
      cases h3 : (P.s - P.c == P.held.length + P.R + 1) with
      | true =>
        have h3i : (((P.s - P.c : Nat) : Int) == (P.held.length : Int) + (P.R : Int) + 1) = true := by simp at h3 ⊢; omega
        have HNO : Hid (P.splitB = false) := Lib.hid (by rw [HS.out, h1, h2, h3]; rfl)
        clear h1 h2 h3
        go_enter Try.func23, Try.ntmps23
        go_upto_region 1 with fail
        rw [HW0.out]
        clear HW0
        go_quiet (fail)
        go_wp2_with fail
        go_quiet (exact HAL.out _ _)
        go_wp2_with fail
        go_ret
        exact SplitDone.no HNO.out (below_drewN (below_drewN HB0.out _) _)
      | false =>
        have h3i : (((P.s - P.c : Nat) : Int) == (P.held.length : Int) + (P.R : Int) + 1) = false := by simp at h3 ⊢; omega
        have HYES : Hid (P.splitB = true) := Lib.hid (by rw [HS.out, h1, h2, h3]; rfl)
        clear h1 h2 h3
        go_enter Try.func23, Try.ntmps23
        go_upto_region 1 with fail
        rw [HW0.out]
        clear HW0
        go_quiet (fail)
        go_wp2_with fail
        go_quiet (exact HAL.out _ _)
        go_wp2_with fail
        go_ret
        exact SplitDone.yes HYES.out (below_drewN HB0.out _) (HX0.out.keep rfl) (Nat.le_refl _)
end Go.Proofs.Ytfjpggpgiojmhaa
