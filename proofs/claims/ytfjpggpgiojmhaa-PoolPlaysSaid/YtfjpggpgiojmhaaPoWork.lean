/- pool's steps: a worker's, the collector's. -/
import Derived.Test.YtfjpggpgiojmhaaPoStep
namespace Go.Proofs.Ytfjpggpgiojmhaa
open Go.RowKit

/-- What worker k (from 0 on) may do: nothing, hand its job back, take the next. -/
def WorkDone (B k : Nat) (P : PoolM) (w : World) (e : Ending) (w' : World) : Prop :=
  Below w.heap.size w w' ∧ ((P.held.getD k (-1) = -1 ∧ P.t = P.s ∧ e = .returned .nilFunc) ∨
    (P.held.getD k (-1) ≠ -1 ∧ ∃ b1 b2 b3, e = .returned (.func (.func 28) #[] #[PV b1, PV b2, PV b3]) ∧ BoxAt b1 w' (PV B) ∧ BoxAt b2 w' (.int .i64 (k : Nat)) ∧ BoxAt b3 w' (.int .i64 (P.held.getD k (-1))) ∧ w.heap.size ≤ b1 ∧ w.heap.size ≤ b2 ∧ w.heap.size ≤ b3) ∨
    (P.held.getD k (-1) = -1 ∧ P.t ≠ P.s ∧ ∃ b1 b2, e = .returned (.func (.func 29) #[] #[PV b1, PV b2]) ∧ BoxAt b1 w' (PV B) ∧ BoxAt b2 w' (.int .i64 (k : Nat)) ∧ w.heap.size ≤ b1 ∧ w.heap.size ≤ b2))
set_option maxRecDepth 100000 in
set_option maxHeartbeats 1000000 in
theorem workStep_any (B hb mb k : Nat) (P : PoolM) (w : World) (hP : PoolAt w B hb mb P) (hok : P.Ok) (hk : k < P.held.length) :
    Calls Try.prog 24 #[PV B, .int .i64 (k : Nat)] w (WorkDone B k P w) := by
  obtain ⟨W0, hW0⟩ : ∃ W0, (w.alloc (.cells #[PV B] 24)).alloc (.cells #[.int .i64 (k : Nat)] 3) = W0 := ⟨_, rfl⟩
  have hb0 : Below w.heap.size w W0 := by rw [← hW0]; exact ((Below.refl _ _).alloc (Nat.le_refl _) _).alloc (by simp) _
  have hx0 : BoxAt w.heap.size W0 (PV B) := by rw [← hW0]; exact (BoxAt.made _ _ _).below ((Below.refl _ _).alloc (Nat.le_refl _) _)
  have hx1 : BoxAt (w.heap.size + 1) W0 (.int .i64 (k : Nat)) := by
    have := BoxAt.made (w.alloc (.cells #[PV B] 24)) (.int .i64 (k : Nat)) 3
    rw [World.size_alloc] at this
    rw [← hW0]; exact this
  have hsz : W0.heap.size = w.heap.size + 2 := by rw [← hW0]; simp
  have hP0 := hP.below hb0
  have HW0 := Lib.hid hW0
  have HB0 := Lib.hid hb0
  have HX0 := Lib.hid hx0
  have HX1 := Lib.hid hx1
  have hgd : P.held.getD k (-1) = P.held[k] := by simp [List.getD, hk]
  have r1 := (hP0.rowAt k hk).1
  rw [← hgd] at r1
  have hki : (k : Int) < (P.held.length : Int) := by omega
  have hli : (P.held.length : Int) ≤ 64 := by have := hok.n; omega
  have HK := Lib.hid (And.intro hki hli)
  have HC := Lib.hid (fun (wx : World) (h : Below W0.heap.size W0 wx) => (hP0.below h).cells)
  have HA0 := Lib.hid (fun (wx : World) (h : Below W0.heap.size W0 wx) => (hx0.below h).cell)
  have HA1 := Lib.hid (fun (wx : World) (h : Below W0.heap.size W0 wx) => (hx1.below h).cell)
  have HA2 := Lib.hid (fun (wx : World) (h : Below W0.heap.size W0 wx) => (h.cell (p := ⟨hb, k, none⟩) hP0.lt.2.1).trans r1)
  have hts : ((P.t : Int) == (P.s : Int)) = (P.t == P.s) := by rw [Bool.eq_iff_iff]; simp; omega
  generalize hj : P.held.getD k (-1) = j at *
  have HJ := Lib.hid hj
  have hdr : Below W0.heap.size W0 W0.drew := below_drew W0
  have g1 : Below W0.heap.size W0 (W0.drew.alloc (.cells #[.int .i64 0] 3)) := hdr.alloc (Nat.le_refl _) _
  have g2 : Below W0.heap.size W0 (W0.alloc (.cells #[.int .i64 j] 3)).drew := ((Below.refl _ _).alloc (Nat.le_refl _) _).trans ((below_drew _).mono (by simp))
  have hx2 : BoxAt W0.heap.size (W0.alloc (.cells #[.int .i64 j] 3)).drew (.int .i64 j) := (BoxAt.made W0 _ _).keep rfl
  have HX2 := Lib.hid hx2
  have y2 := hx2.cell
  obtain ⟨_, _, c2, c3, _, _, _⟩ := HC.out _ g2
  have y0 := HA0.out _ g2
  have HBE := Lib.hid (HB0.out.trans (g2.mono (by omega)))
  have hE0 := Lib.hid (HX0.out.below g2)
  have hE1 := Lib.hid (HX1.out.below g2)
  have HG2 := Lib.hid g2
  have HSZ := Lib.hid hsz
  clear hW0 hb0 hx0 hx1 hP0 hgd hj r1 hx2 hsz
  go_enter Try.func24, Try.ntmps24
  go_upto_region 1 with fail
  rw [HW0.out]
  clear HW0
  refine wp_region_held_drew (S := fun w2 => Below W0.heap.size W0 w2) (by kernel_rfl) hdr (fun hS => ?_)
  refine wpAnyH_take (i := 0) (oi := { dst := some 6, op := Op.load 24 (Operand.tmp 2), type := 24, pos := "pool.go:124", after := #[], guard := none }) (v := ?vwk1) rfl (by kernel_rfl) (by kernel_rfl) (by kernel_rfl) (fun _ _ _ h => h) (Or.inl ⟨by rfl, ?ywk1⟩) hS ?_
  case ywk1 =>
    intro w hSw
    obtain ⟨_, _, i2, i3, _, i5, _⟩ := HC.out w hSw
    have j0 := HA0.out w hSw
    have j1 := HA1.out w hSw
    have j2 := HA2.out w hSw
    have hk1 := HK.out.1
    have hk2 := HK.out.2
    go_simp; all_goals (with_reducible rfl)
  simp only [Act.put, List.setIfInBounds_toArray, List.set_cons_zero, List.set_cons_succ]
  refine wpAnyH_take (i := 1) (oi := { dst := some 7, op := Op.nilCheck (Operand.tmp 6), type := 0, pos := "pool.go:124", after := #[{ on := 0, ground := Ground.data }], guard := none }) (v := ?vwk2) rfl (by kernel_rfl) (by kernel_rfl) (by kernel_rfl) (fun _ _ _ h => h) (Or.inl ⟨by rfl, ?ywk2⟩) hS ?_
  case ywk2 =>
    intro w hSw
    go_simp; all_goals (with_reducible rfl)
  simp only [Act.put, List.setIfInBounds_toArray, List.set_cons_zero, List.set_cons_succ]
  refine wpAnyH_take (i := 2) (oi := { dst := some 8, op := Op.fieldAddr 43 (Operand.tmp 7) 5, type := 0, pos := "pool.go:124", after := #[{ on := 1, ground := Ground.data }], guard := none }) (v := ?vwk3) rfl (by kernel_rfl) (by kernel_rfl) (by kernel_rfl) (fun _ _ _ h => h) (Or.inl ⟨by rfl, ?ywk3⟩) hS ?_
  case ywk3 =>
    intro w hSw
    go_simp; all_goals (with_reducible rfl)
  simp only [Act.put, List.setIfInBounds_toArray, List.set_cons_zero, List.set_cons_succ]
  refine wpAnyH_take (i := 3) (oi := { dst := some 9, op := Op.load 22 (Operand.tmp 8), type := 22, pos := "pool.go:124", after := #[{ on := 2, ground := Ground.data }], guard := none }) (v := ?vwk4) rfl (by kernel_rfl) (by kernel_rfl) (by kernel_rfl) (fun _ _ _ h => h) (Or.inl ⟨by rfl, ?ywk4⟩) hS ?_
  case ywk4 =>
    intro w hSw
    obtain ⟨_, _, i2, i3, _, i5, _⟩ := HC.out w hSw
    have j0 := HA0.out w hSw
    have j1 := HA1.out w hSw
    have j2 := HA2.out w hSw
    have hk1 := HK.out.1
    have hk2 := HK.out.2
    go_simp; all_goals (with_reducible rfl)
  simp only [Act.put, List.setIfInBounds_toArray, List.set_cons_zero, List.set_cons_succ]
  refine wpAnyH_take (i := 4) (oi := { dst := some 10, op := Op.load 3 (Operand.tmp 3), type := 3, pos := "pool.go:124", after := #[], guard := none }) (v := ?vwk5) rfl (by kernel_rfl) (by kernel_rfl) (by kernel_rfl) (fun _ _ _ h => h) (Or.inl ⟨by rfl, ?ywk5⟩) hS ?_
  case ywk5 =>
    intro w hSw
    obtain ⟨_, _, i2, i3, _, i5, _⟩ := HC.out w hSw
    have j0 := HA0.out w hSw
    have j1 := HA1.out w hSw
    have j2 := HA2.out w hSw
    have hk1 := HK.out.1
    have hk2 := HK.out.2
    go_simp; all_goals (with_reducible rfl)
  simp only [Act.put, List.setIfInBounds_toArray, List.set_cons_zero, List.set_cons_succ]
  refine wpAnyH_take (i := 5) (oi := { dst := some 11, op := Op.indexAddr 22 (Operand.tmp 9) (Operand.tmp 10), type := 0, pos := "pool.go:124", after := #[{ on := 3, ground := Ground.data }, { on := 4, ground := Ground.data }], guard := none }) (v := ?vwk6) rfl (by kernel_rfl) (by kernel_rfl) (by kernel_rfl) (fun _ _ _ h => h) (Or.inl ⟨by rfl, ?ywk6⟩) hS ?_
  case ywk6 =>
    intro w hSw
    obtain ⟨_, _, i2, i3, _, i5, _⟩ := HC.out w hSw
    have j0 := HA0.out w hSw
    have j1 := HA1.out w hSw
    have j2 := HA2.out w hSw
    have hk1 := HK.out.1
    have hk2 := HK.out.2
    go_simp; all_goals (with_reducible rfl)
  simp only [Act.put, List.setIfInBounds_toArray, List.set_cons_zero, List.set_cons_succ]
  refine wpAnyH_take (i := 6) (oi := { dst := some 12, op := Op.load 3 (Operand.tmp 11), type := 3, pos := "pool.go:124", after := #[{ on := 5, ground := Ground.data }], guard := none }) (v := ?vwk7) rfl (by kernel_rfl) (by kernel_rfl) (by kernel_rfl) (fun _ _ _ h => h) (Or.inl ⟨by rfl, ?ywk7⟩) hS ?_
  case ywk7 =>
    intro w hSw
    obtain ⟨_, _, i2, i3, _, i5, _⟩ := HC.out w hSw
    have j0 := HA0.out w hSw
    have j1 := HA1.out w hSw
    have j2 := HA2.out w hSw
    have hk1 := HK.out.1
    have hk2 := HK.out.2
    go_simp; all_goals (with_reducible rfl)
  simp only [Act.put, List.setIfInBounds_toArray, List.set_cons_zero, List.set_cons_succ]
  refine wpAnyH_ready (rs := [7]) (by kernel_rfl) (by simp) ?_
  refine (AllReadyH.cons (o := { dst := some 5, op := Op.alloc 3, type := 0, pos := "pool.go:124", after := #[], guard := none }) rfl (fun K hK => ?_) AllReadyH.nil)
  go_simp
  refine hK.out _ _ g1 (fun _ => ?_)
  clear hK K
  refine wpAnyH_ready (rs := [8]) (by kernel_rfl) (by simp) ?_
  refine (AllReadyH.cons (o := { dst := none, op := Op.store 3 (Operand.tmp 5) (Operand.tmp 12), type := 0, pos := "pool.go:124", after := #[{ on := 7, ground := Ground.data }, { on := 6, ground := Ground.data }, { on := 0, ground := Ground.phase }, { on := 1, ground := Ground.phase }, { on := 2, ground := Ground.phase }, { on := 3, ground := Ground.phase }, { on := 4, ground := Ground.phase }, { on := 5, ground := Ground.phase }, { on := 6, ground := Ground.phase }, { on := 7, ground := Ground.phase }], guard := none }) rfl (fun K hK => ?_) AllReadyH.nil)
  go_simp
  refine hK.out _ _ g2 (fun _ => ?_)
  clear hK K
  refine wpAnyH_done (by kernel_rfl) ?_ _
  clear g1 HC HA0 HA1 HA2
  generalize (W0.alloc (.cells #[.int .i64 j] 3)).drew = W1 at *
  by_cases hj1 : j = -1
  case neg =>
    have hjb : (j == -1) = false := by simp [hj1]
    have HJ1 := Lib.hid hj1
    clear hj1
    go_wp2_with fail
    go_ret
    exact ⟨HBE.out, .inr (.inl ⟨by rw [HJ.out]; exact HJ1.out, w.heap.size, w.heap.size + 1, W0.heap.size, rfl, hE0.out, hE1.out, by rw [HJ.out]; exact HX2.out, Nat.le_refl _, by omega, by rw [HSZ.out]; omega⟩)⟩
  subst hj1
  go_wp2_with fail
  go_quiet (fail)
  cases h2 : (P.t == P.s) with
  | true =>
    have e2 : P.t = P.s := by simpa using h2
    have HE2 := Lib.hid e2
    clear e2
    go_wp2_with fail
    go_ret
    exact ⟨below_drewN HBE.out _, .inl ⟨HJ.out, HE2.out, rfl⟩⟩
  | false =>
    have e2 : P.t ≠ P.s := by simpa using h2
    have HE2 := Lib.hid e2
    clear e2
    go_wp2_with fail
    go_ret
    exact ⟨below_drewN HBE.out _, .inr (.inr ⟨HJ.out, HE2.out, w.heap.size, w.heap.size + 1, rfl, hE0.out.keep rfl, hE1.out.keep rfl, Nat.le_refl _, by omega⟩)⟩
def CollectDone (B : Nat) (P : PoolM) (w : World) (e : Ending) (w' : World) : Prop :=
  Below w.heap.size w w' ∧ ((P.W P.c = false ∧ e = .returned .nilFunc) ∨ (P.W P.c = true ∧ ∃ b1, e = .returned (.func (.func 30) #[] #[PV b1]) ∧ BoxAt b1 w' (PV B) ∧ w.heap.size ≤ b1))
set_option maxRecDepth 100000 in
set_option maxHeartbeats 1000000 in
theorem collectStep_any (B hb mb : Nat) (P : PoolM) (w : World) (hP : PoolAt w B hb mb P) (hok : P.Ok) :
    Calls Try.prog 25 #[PV B] w (CollectDone B P w) := by
  obtain ⟨W0, hW0⟩ : ∃ W0, w.alloc (.cells #[PV B] 24) = W0 := ⟨_, rfl⟩
  have hb0 : Below w.heap.size w W0 := by rw [← hW0]; exact (Below.refl _ _).alloc (Nat.le_refl _) _
  have hx0 : BoxAt w.heap.size W0 (PV B) := by rw [← hW0]; exact BoxAt.made _ _ _
  have hP0 := hP.below hb0
  have HW0 := Lib.hid hW0
  have HB0 := Lib.hid hb0
  have HX0 := Lib.hid hx0
  have hcb : P.c ≤ 10000 := by have := hok.ct; have := hok.ts; have := hok.sJ; have := hok.J; omega
  have hci : (P.c : Int) ≤ 10000 := by omega
  have HC := Lib.hid (fun (wx : World) (h : Below W0.heap.size W0 wx) => (hP0.below h).cells)
  have HA0 := Lib.hid (fun (wx : World) (h : Below W0.heap.size W0 wx) => (hx0.below h).cell)
  have HLK := Lib.hid (fun (wx : World) (h : Below W0.heap.size W0 wx) => (hP0.below h).set.look P.c (by omega))
  have hdr : Below W0.heap.size W0 W0.drew := below_drew W0
  have g2 : Below W0.heap.size W0 (W0.alloc (.cells #[] 48)).drew := ((Below.refl _ _).alloc (Nat.le_refl _) _).trans ((below_drew _).mono (by simp))
  have HBE := Lib.hid (HB0.out.trans (g2.mono HB0.out.size))
  have hE0 := Lib.hid (HX0.out.below g2)
  generalize hWc : P.W P.c = v at *
  have HWC := Lib.hid hWc
  clear hW0 hb0 hx0 hP0 hWc
  go_enter Try.func25, Try.ntmps25
  go_upto_region 1 with fail
  rw [HW0.out]
  clear HW0
  refine wp_region_held_drew (S := fun w2 => Below W0.heap.size W0 w2) (by kernel_rfl) hdr (fun hS => ?_)
  refine wpAnyH_take (i := 0) (oi := { dst := some 6, op := Op.load 24 (Operand.tmp 1), type := 24, pos := "pool.go:142", after := #[], guard := none }) (v := ?vcs8) rfl (by kernel_rfl) (by kernel_rfl) (by kernel_rfl) (fun _ _ _ h => h) (Or.inl ⟨by rfl, ?ycs8⟩) hS ?_
  case ycs8 =>
    intro w hSw
    obtain ⟨_, _, _, _, i4, _, i6⟩ := HC.out w hSw
    have j0 := HA0.out w hSw
    go_simp; all_goals (with_reducible rfl)
  simp only [Act.put, List.setIfInBounds_toArray, List.set_cons_zero, List.set_cons_succ]
  refine wpAnyH_take (i := 1) (oi := { dst := some 7, op := Op.nilCheck (Operand.tmp 6), type := 0, pos := "pool.go:142", after := #[{ on := 0, ground := Ground.data }], guard := none }) (v := ?vcs9) rfl (by kernel_rfl) (by kernel_rfl) (by kernel_rfl) (fun _ _ _ h => h) (Or.inl ⟨by rfl, ?ycs9⟩) hS ?_
  case ycs9 =>
    intro w hSw
    go_simp; all_goals (with_reducible rfl)
  simp only [Act.put, List.setIfInBounds_toArray, List.set_cons_zero, List.set_cons_succ]
  refine wpAnyH_take (i := 2) (oi := { dst := some 8, op := Op.fieldAddr 43 (Operand.tmp 7) 6, type := 0, pos := "pool.go:142", after := #[{ on := 1, ground := Ground.data }], guard := none }) (v := ?vcs10) rfl (by kernel_rfl) (by kernel_rfl) (by kernel_rfl) (fun _ _ _ h => h) (Or.inl ⟨by rfl, ?ycs10⟩) hS ?_
  case ycs10 =>
    intro w hSw
    go_simp; all_goals (with_reducible rfl)
  simp only [Act.put, List.setIfInBounds_toArray, List.set_cons_zero, List.set_cons_succ]
  refine wpAnyH_take (i := 3) (oi := { dst := some 9, op := Op.load 41 (Operand.tmp 8), type := 41, pos := "pool.go:142", after := #[{ on := 2, ground := Ground.data }], guard := none }) (v := ?vcs11) rfl (by kernel_rfl) (by kernel_rfl) (by kernel_rfl) (fun _ _ _ h => h) (Or.inl ⟨by rfl, ?ycs11⟩) hS ?_
  case ycs11 =>
    intro w hSw
    obtain ⟨_, _, _, _, i4, _, i6⟩ := HC.out w hSw
    have j0 := HA0.out w hSw
    go_simp; all_goals (with_reducible rfl)
  simp only [Act.put, List.setIfInBounds_toArray, List.set_cons_zero, List.set_cons_succ]
  refine wpAnyH_take (i := 4) (oi := { dst := some 10, op := Op.load 24 (Operand.tmp 1), type := 24, pos := "pool.go:142", after := #[], guard := none }) (v := ?vcs12) rfl (by kernel_rfl) (by kernel_rfl) (by kernel_rfl) (fun _ _ _ h => h) (Or.inl ⟨by rfl, ?ycs12⟩) hS ?_
  case ycs12 =>
    intro w hSw
    obtain ⟨_, _, _, _, i4, _, i6⟩ := HC.out w hSw
    have j0 := HA0.out w hSw
    go_simp; all_goals (with_reducible rfl)
  simp only [Act.put, List.setIfInBounds_toArray, List.set_cons_zero, List.set_cons_succ]
  refine wpAnyH_take (i := 5) (oi := { dst := some 11, op := Op.nilCheck (Operand.tmp 10), type := 0, pos := "pool.go:142", after := #[{ on := 4, ground := Ground.data }], guard := none }) (v := ?vcs13) rfl (by kernel_rfl) (by kernel_rfl) (by kernel_rfl) (fun _ _ _ h => h) (Or.inl ⟨by rfl, ?ycs13⟩) hS ?_
  case ycs13 =>
    intro w hSw
    go_simp; all_goals (with_reducible rfl)
  simp only [Act.put, List.setIfInBounds_toArray, List.set_cons_zero, List.set_cons_succ]
  refine wpAnyH_take (i := 6) (oi := { dst := some 12, op := Op.fieldAddr 43 (Operand.tmp 11) 4, type := 0, pos := "pool.go:142", after := #[{ on := 5, ground := Ground.data }], guard := none }) (v := ?vcs14) rfl (by kernel_rfl) (by kernel_rfl) (by kernel_rfl) (fun _ _ _ h => h) (Or.inl ⟨by rfl, ?ycs14⟩) hS ?_
  case ycs14 =>
    intro w hSw
    go_simp; all_goals (with_reducible rfl)
  simp only [Act.put, List.setIfInBounds_toArray, List.set_cons_zero, List.set_cons_succ]
  refine wpAnyH_take (i := 7) (oi := { dst := some 13, op := Op.load 3 (Operand.tmp 12), type := 3, pos := "pool.go:142", after := #[{ on := 6, ground := Ground.data }], guard := none }) (v := ?vcs15) rfl (by kernel_rfl) (by kernel_rfl) (by kernel_rfl) (fun _ _ _ h => h) (Or.inl ⟨by rfl, ?ycs15⟩) hS ?_
  case ycs15 =>
    intro w hSw
    obtain ⟨_, _, _, _, i4, _, i6⟩ := HC.out w hSw
    have j0 := HA0.out w hSw
    go_simp; all_goals (with_reducible rfl)
  simp only [Act.put, List.setIfInBounds_toArray, List.set_cons_zero, List.set_cons_succ]
  refine wpAnyH_take (i := 8) (oi := { dst := some 14, op := Op.lookup 41 (Operand.tmp 9) (Operand.tmp 13) true, type := 49, pos := "pool.go:142", after := #[{ on := 3, ground := Ground.data }, { on := 7, ground := Ground.data }], guard := none }) (v := ?vcs16) rfl (by kernel_rfl) (by kernel_rfl) (by kernel_rfl) (fun _ _ _ h => h) (Or.inl ⟨by rfl, ?ycs16⟩) hS ?_
  case ycs16 =>
    intro w hSw
    have hl := HLK.out w hSw
    go_simp; all_goals (with_reducible rfl)
  simp only [Act.put, List.setIfInBounds_toArray, List.set_cons_zero, List.set_cons_succ]
  refine wpAnyH_take (i := 9) (oi := { dst := some 5, op := Op.move (Operand.tmp 14), type := 49, pos := "pool.go:142", after := #[{ on := 8, ground := Ground.data }], guard := none }) (v := ?vcs17) rfl (by kernel_rfl) (by kernel_rfl) (by kernel_rfl) (fun _ _ _ h => h) (Or.inl ⟨by rfl, ?ycs17⟩) hS ?_
  case ycs17 =>
    intro w hSw
    go_simp; all_goals (with_reducible rfl)
  simp only [Act.put, List.setIfInBounds_toArray, List.set_cons_zero, List.set_cons_succ]
  refine wpAnyH_take (i := 10) (oi := { dst := some 15, op := Op.extract (Operand.tmp 5) 0, type := 48, pos := "pool.go:142", after := #[{ on := 9, ground := Ground.data }], guard := none }) (v := ?vcs18) rfl (by kernel_rfl) (by kernel_rfl) (by kernel_rfl) (fun _ _ _ h => h) (Or.inl ⟨by rfl, ?ycs18⟩) hS ?_
  case ycs18 =>
    intro w hSw
    go_simp; all_goals (with_reducible rfl)
  simp only [Act.put, List.setIfInBounds_toArray, List.set_cons_zero, List.set_cons_succ]
  refine wpAnyH_take (i := 11) (oi := { dst := some 16, op := Op.extract (Operand.tmp 5) 1, type := 4, pos := "pool.go:142", after := #[{ on := 9, ground := Ground.data }, { on := 13, ground := Ground.gcOnly Departure.lateStores }], guard := none }) (v := ?vcs19) rfl (by kernel_rfl) (by kernel_rfl) (by kernel_rfl) (fun _ _ _ h => h) (Or.inl ⟨by rfl, ?ycs19⟩) hS ?_
  case ycs19 =>
    intro w hSw
    go_simp; all_goals (with_reducible rfl)
  simp only [Act.put, List.setIfInBounds_toArray, List.set_cons_zero, List.set_cons_succ]
  refine wpAnyH_ready (rs := [12]) (by kernel_rfl) (by simp) ?_
  refine (AllReadyH.cons (o := { dst := some 3, op := Op.alloc 48, type := 0, pos := "pool.go:142", after := #[], guard := none }) rfl (fun K hK => ?_) AllReadyH.nil)
  go_simp
  refine hK.out _ _ g2 (fun _ => ?_)
  clear hK K
  refine wpAnyH_ready (rs := [13]) (by kernel_rfl) (by simp) ?_
  refine (AllReadyH.cons (o := { dst := none, op := Op.store 48 (Operand.tmp 3) (Operand.tmp 15), type := 0, pos := "pool.go:142", after := #[{ on := 12, ground := Ground.data }, { on := 10, ground := Ground.data }, { on := 0, ground := Ground.phase }, { on := 1, ground := Ground.phase }, { on := 2, ground := Ground.phase }, { on := 3, ground := Ground.phase }, { on := 4, ground := Ground.phase }, { on := 5, ground := Ground.phase }, { on := 6, ground := Ground.phase }, { on := 7, ground := Ground.phase }, { on := 8, ground := Ground.phase }, { on := 9, ground := Ground.phase }, { on := 10, ground := Ground.phase }, { on := 11, ground := Ground.textOnly Departure.lateStores }, { on := 12, ground := Ground.phase }], guard := none }) rfl (fun K hK => ?_) AllReadyH.nil)
  go_simp
  refine hK.out _ _ g2 (fun _ => ?_)
  clear hK K
  refine wpAnyH_ready (rs := [14]) (by kernel_rfl) (by simp) ?_
  refine (AllReadyH.cons (o := { dst := some 4, op := Op.assign (Operand.tmp 16), type := 4, pos := "pool.go:142", after := #[{ on := 11, ground := Ground.data }, { on := 13, ground := Ground.chain }, { on := 0, ground := Ground.phase }, { on := 1, ground := Ground.phase }, { on := 2, ground := Ground.phase }, { on := 3, ground := Ground.phase }, { on := 4, ground := Ground.phase }, { on := 5, ground := Ground.phase }, { on := 6, ground := Ground.phase }, { on := 7, ground := Ground.phase }, { on := 8, ground := Ground.phase }, { on := 9, ground := Ground.phase }, { on := 10, ground := Ground.phase }, { on := 11, ground := Ground.phase }, { on := 12, ground := Ground.phase }, { on := 13, ground := Ground.phase }], guard := none }) rfl (fun K hK => ?_) AllReadyH.nil)
  go_simp
  refine hK.out _ _ g2 (fun _ => ?_)
  clear hK K
  refine wpAnyH_done (by kernel_rfl) ?_ _
  cases v with
  | false =>
    go_wp2_with fail
    go_ret
    exact ⟨HBE.out, .inl ⟨HWC.out, rfl⟩⟩
  | true =>
    go_wp2_with fail
    go_ret
    exact ⟨HBE.out, .inr ⟨HWC.out, w.heap.size, rfl, hE0.out, Nat.le_refl _⟩⟩
end Go.Proofs.Ytfjpggpgiojmhaa
