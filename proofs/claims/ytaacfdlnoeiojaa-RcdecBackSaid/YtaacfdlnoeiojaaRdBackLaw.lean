/- The contract of the law RcdecBack. -/
import Derived.Test.YtaacfdlnoeiojaaRdBackMem
namespace Go.Proofs.Ytaacfdlnoeiojaa
open Go.RowKit

theorem Shifted.undrew {w w' : World} {g o : Nat} {s : Rc.St} (h : Shifted w.drew g o s w') : Shifted w g o s w' := by
  obtain ⟨o', cap', hE, hon, ho⟩ := h
  exact ⟨o', cap', hE, hon.undrew, ho⟩
theorem one32 (w : World) (n : Nat) : (w.alloc (.cells #[U32 n] 33)).cell? ⟨w.heap.size, 0, none⟩ = some (U32 n) := by
  rw [cell_of_row _ _ _ _ _ _ (heap_alloc_last _ _)]; rfl

set_option maxRecDepth 100000 in
set_option maxHeartbeats 4000000 in
theorem back_law (A : Option Addr) (len c : Nat) (D : Nat → Deed) (more : BitVec 8) (w : World) (hB : Deeds w A len D) (_hc : len ≤ c) (_hm : c ≤ 9223372036854775807) :
    Calls Try.prog 4 #[.slice A len c, .int .u8 more.toNat] w (Holds w) := by
  by_cases h : 300 < len
  · have h' : (300 : Int) < len := by omega
    go_enter Try.func4, Try.ntmps4
    go_wp2_with fail
    refine (new_any _).mono ?_
    rintro e w1 ⟨g, o, cap, rfl, hE, hb1, hg, ho⟩
    go_wp2_with fail
    refine (dknows_any _).mono ?_
    rintro e w' ⟨rfl, hb⟩
    go_wp2_with fail
    go_ret
    exact ⟨rfl, hb1.trans (hb.mono hb1.size)⟩
  have h' : (len : Int) ≤ 300 := by omega
  go_enter Try.func4, Try.ntmps4
  go_wp2_with fail
  refine (new_any _).mono ?_
  rintro e w1 ⟨g, o, cap, rfl, hE, hb1, hg, ho⟩
  have hcoded : Coded w g D 0 (.slice none 0 0) w1 := ⟨o, cap, hE, Want.nil _ _, hg, ho, hb1⟩
  clear hE hb1 hg ho
  go_wp2_with fail
  go_loopw [6, 7] (fun vw i wr => ∃ t : Nat, t ≤ len ∧ i = .int .i64 (t : Nat) ∧ Coded w g D t vw wr) (fun _ i _ => len - (intOf i).toNat)
  case atStart => exact ⟨0, by omega, rfl, hcoded⟩
  case round =>
    obtain ⟨t, ht, rfl, o, cap, hE, hW, hg, ho, hbel⟩ := hrel
    obtain ⟨hok, hk⟩ := runE_ok D t
    clear hcoded
    by_cases hlt : t < len
    · obtain ⟨bd, offd, rfl, hab, hd⟩ := hB.resolve_left (by omega)
      have hd00 := hd t hlt
      have hd0 := hd00.below hbel hab
      have hlt' : (t : Int) < len := by omega
      generalize hDt : D t = d at *
      have HDT := Lib.hid hDt
      have HB2 := Lib.hid hB
      have hd1 := hd0.below (drew_below _) (Nat.lt_of_lt_of_le hab hbel.size)
      have e0 := hd0.c0
      clear hd hB hDt
      skip
      · by_cases hw0 : d.what = 0
        · have hw0b : (d.what == 0) = true := by simp [hw0]
          by_cases hb0 : d.bit = 0
          ·
            have hbn : (d.bit != 0) = false := by simp [hb0]
            have hsv : saidOf d = 0 := by unfold saidOf; rw [if_pos hw0, hbn]; rfl
            have hst : stepE (runE D t) d = (runE D t).bit d.chance.toNat false := by unfold stepE; rw [if_pos hw0, hbn]
            have HB := Lib.hid (fun (w' : World) (hE' : EncAt w' g o cap (runE D t)) => bit_any g o cap (runE D t) d.chance d.bit w' hE' hok (by omega))
            simp only [hbn] at HB
            have HSV := Lib.hid hsv
            have HST := Lib.hid hst
            have hst2 : (runE D t).bit d.chance.toNat false = Rc.St.scale 2 ((runE D t).pick (Rc.fair d.chance.toNat) false) := rfl
            rw [← hst2] at HB
            generalize (runE D t).bit d.chance.toNat false = s' at *
            generalize Rc.next (Rc.fair d.chance.toNat) false = nx at *
            have HW0 := Lib.hid hw0
            have HB0 := Lib.hid hb0
            clear hw0 hb0 hsv hst hst2 hbn
            go_wp2_with fail
            refine wp_region_held_drew (S := fun w' => DeedAt w' bd (offd + t * 5) d) (by kernel_rfl) hd1 (fun hS => ?_)
            refine wpAnyH_take (i := 0) (oi := { dst := some 46, op := Op.move (Operand.tmp 5), type := 46, pos := "law.go:74", after := #[], guard := none }) (v := ?vb1) rfl (by kernel_rfl) (by kernel_rfl) (by kernel_rfl) (fun _ _ _ h => h) (Or.inl ⟨by rfl, ?yb1⟩) hS ?_
            case yb1 =>
              intro w hSw
              go_simp; all_goals (with_reducible rfl)
            simp only [Act.put, List.setIfInBounds_toArray, List.set_cons_zero, List.set_cons_succ]
            refine wpAnyH_take (i := 1) (oi := { dst := some 47, op := Op.move (Operand.tmp 0), type := 23, pos := "law.go:74", after := #[], guard := none }) (v := ?vb2) rfl (by kernel_rfl) (by kernel_rfl) (by kernel_rfl) (fun _ _ _ h => h) (Or.inl ⟨by rfl, ?yb2⟩) hS ?_
            case yb2 =>
              intro w hSw
              go_simp; all_goals (with_reducible rfl)
            simp only [Act.put, List.setIfInBounds_toArray, List.set_cons_zero, List.set_cons_succ]
            refine wpAnyH_take (i := 2) (oi := { dst := some 48, op := Op.move (Operand.tmp 7), type := 3, pos := "law.go:74", after := #[], guard := none }) (v := ?vb3) rfl (by kernel_rfl) (by kernel_rfl) (by kernel_rfl) (fun _ _ _ h => h) (Or.inl ⟨by rfl, ?yb3⟩) hS ?_
            case yb3 =>
              intro w hSw
              go_simp; all_goals (with_reducible rfl)
            simp only [Act.put, List.setIfInBounds_toArray, List.set_cons_zero, List.set_cons_succ]
            refine wpAnyH_take (i := 3) (oi := { dst := some 49, op := Op.indexAddr 23 (Operand.tmp 47) (Operand.tmp 48), type := 0, pos := "law.go:74", after := #[{ on := 1, ground := Ground.data }, { on := 2, ground := Ground.data }], guard := none }) (v := ?vb4) rfl (by kernel_rfl) (by kernel_rfl) (by kernel_rfl) (fun _ _ _ h => h) (Or.inl ⟨by rfl, ?yb4⟩) hS ?_
            case yb4 =>
              intro w hSw
              go_simp; all_goals (with_reducible rfl)
            simp only [Act.put, List.setIfInBounds_toArray, List.set_cons_zero, List.set_cons_succ]
            refine wpAnyH_take (i := 4) (oi := { dst := some 50, op := Op.fieldAddr 35 (Operand.tmp 49) 1, type := 0, pos := "law.go:74", after := #[{ on := 3, ground := Ground.data }], guard := none }) (v := ?vb5) rfl (by kernel_rfl) (by kernel_rfl) (by kernel_rfl) (fun _ _ _ h => h) (Or.inl ⟨by rfl, ?yb5⟩) hS ?_
            case yb5 =>
              intro w hSw
              go_simp; all_goals (with_reducible rfl)
            simp only [Act.put, List.setIfInBounds_toArray, List.set_cons_zero, List.set_cons_succ]
            refine wpAnyH_take (i := 5) (oi := { dst := some 51, op := Op.load 32 (Operand.tmp 50), type := 32, pos := "law.go:74", after := #[{ on := 4, ground := Ground.data }], guard := none }) (v := ?vb6) rfl (by kernel_rfl) (by kernel_rfl) (by kernel_rfl) (fun _ _ _ h => h) (Or.inl ⟨by rfl, ?yb6⟩) hS ?_
            case yb6 =>
              intro w hSw
              obtain ⟨j0, j1, j2, j3, j4, _, _, _⟩ := hSw
              go_simp; all_goals (with_reducible rfl)
            simp only [Act.put, List.setIfInBounds_toArray, List.set_cons_zero, List.set_cons_succ]
            refine wpAnyH_take (i := 6) (oi := { dst := some 52, op := Op.move (Operand.tmp 0), type := 23, pos := "law.go:74", after := #[], guard := none }) (v := ?vb7) rfl (by kernel_rfl) (by kernel_rfl) (by kernel_rfl) (fun _ _ _ h => h) (Or.inl ⟨by rfl, ?yb7⟩) hS ?_
            case yb7 =>
              intro w hSw
              go_simp; all_goals (with_reducible rfl)
            simp only [Act.put, List.setIfInBounds_toArray, List.set_cons_zero, List.set_cons_succ]
            refine wpAnyH_take (i := 7) (oi := { dst := some 53, op := Op.move (Operand.tmp 7), type := 3, pos := "law.go:74", after := #[], guard := none }) (v := ?vb8) rfl (by kernel_rfl) (by kernel_rfl) (by kernel_rfl) (fun _ _ _ h => h) (Or.inl ⟨by rfl, ?yb8⟩) hS ?_
            case yb8 =>
              intro w hSw
              go_simp; all_goals (with_reducible rfl)
            simp only [Act.put, List.setIfInBounds_toArray, List.set_cons_zero, List.set_cons_succ]
            refine wpAnyH_take (i := 8) (oi := { dst := some 54, op := Op.indexAddr 23 (Operand.tmp 52) (Operand.tmp 53), type := 0, pos := "law.go:74", after := #[{ on := 6, ground := Ground.data }, { on := 7, ground := Ground.data }], guard := none }) (v := ?vb9) rfl (by kernel_rfl) (by kernel_rfl) (by kernel_rfl) (fun _ _ _ h => h) (Or.inl ⟨by rfl, ?yb9⟩) hS ?_
            case yb9 =>
              intro w hSw
              go_simp; all_goals (with_reducible rfl)
            simp only [Act.put, List.setIfInBounds_toArray, List.set_cons_zero, List.set_cons_succ]
            refine wpAnyH_take (i := 9) (oi := { dst := some 55, op := Op.fieldAddr 35 (Operand.tmp 54) 2, type := 0, pos := "law.go:74", after := #[{ on := 8, ground := Ground.data }], guard := none }) (v := ?vb10) rfl (by kernel_rfl) (by kernel_rfl) (by kernel_rfl) (fun _ _ _ h => h) (Or.inl ⟨by rfl, ?yb10⟩) hS ?_
            case yb10 =>
              intro w hSw
              go_simp; all_goals (with_reducible rfl)
            simp only [Act.put, List.setIfInBounds_toArray, List.set_cons_zero, List.set_cons_succ]
            refine wpAnyH_take (i := 10) (oi := { dst := some 56, op := Op.load 3 (Operand.tmp 55), type := 3, pos := "law.go:74", after := #[{ on := 9, ground := Ground.data }], guard := none }) (v := ?vb11) rfl (by kernel_rfl) (by kernel_rfl) (by kernel_rfl) (fun _ _ _ h => h) (Or.inl ⟨by rfl, ?yb11⟩) hS ?_
            case yb11 =>
              intro w hSw
              obtain ⟨j0, j1, j2, j3, j4, _, _, _⟩ := hSw
              go_simp; all_goals (with_reducible rfl)
            simp only [Act.put, List.setIfInBounds_toArray, List.set_cons_zero, List.set_cons_succ]
            refine wpAnyH_ready (rs := [11]) (by kernel_rfl) (by simp) ?_
            refine (AllReadyH.cons (o := { dst := some 57, op := Op.call { callee := Callee.value (Operand.func 17), args := #[Operand.tmp 46, Operand.tmp 51, Operand.tmp 56], argTypes := #[46, 32, 3] }, type := 36, pos := "law.go:74", after := #[{ on := 0, ground := Ground.data }, { on := 5, ground := Ground.data }, { on := 10, ground := Ground.data }], guard := none }) rfl (fun K hK => ?_) AllReadyH.nil)
            go_simp
            refine (HB.out _ (hE.below (drew_below _))).mono ?_
            rintro e w3 ⟨rfl, hsh⟩
            obtain ⟨o3, cap3, hE3, hW3, ho3, hb3⟩ := coded_shift hE hW hg ho hbel hsh.undrew
            have hd3 := hd00.below hb3 hab
            go_wp2_with fail
            refine hK.out _ _ hd3 (fun _ => ?_)
            clear hK K
            refine wpAnyH_take (i := 12) (oi := { dst := some 45, op := Op.move (Operand.tmp 57), type := 36, pos := "law.go:74", after := #[{ on := 11, ground := Ground.data }], guard := none }) (v := ?vb12) rfl (by kernel_rfl) (by kernel_rfl) (by kernel_rfl) (fun _ _ _ h => h) (Or.inl ⟨by rfl, ?yb12⟩) hd3 ?_
            case yb12 =>
              intro w hSw
              go_simp; all_goals (with_reducible rfl)
            simp only [Act.put, List.setIfInBounds_toArray, List.set_cons_zero, List.set_cons_succ]
            refine wpAnyH_take (i := 13) (oi := { dst := some 58, op := Op.extract (Operand.tmp 45) 0, type := 3, pos := "law.go:74", after := #[{ on := 12, ground := Ground.data }], guard := none }) (v := ?vb13) rfl (by kernel_rfl) (by kernel_rfl) (by kernel_rfl) (fun _ _ _ h => h) (Or.inl ⟨by rfl, ?yb13⟩) hd3 ?_
            case yb13 =>
              intro w hSw
              go_simp; all_goals (with_reducible rfl)
            simp only [Act.put, List.setIfInBounds_toArray, List.set_cons_zero, List.set_cons_succ]
            refine wpAnyH_take (i := 14) (oi := { dst := some 59, op := Op.extract (Operand.tmp 45) 1, type := 32, pos := "law.go:74", after := #[{ on := 12, ground := Ground.data }, { on := 15, ground := Ground.gcOnly Departure.lateStores }], guard := none }) (v := ?vb14) rfl (by kernel_rfl) (by kernel_rfl) (by kernel_rfl) (fun _ _ _ h => h) (Or.inl ⟨by rfl, ?yb14⟩) hd3 ?_
            case yb14 =>
              intro w hSw
              go_simp; all_goals (with_reducible rfl)
            simp only [Act.put, List.setIfInBounds_toArray, List.set_cons_zero, List.set_cons_succ]
            refine wpAnyH_take (i := 15) (oi := { dst := some 8, op := Op.assign (Operand.tmp 58), type := 3, pos := "law.go:74", after := #[{ on := 13, ground := Ground.data }, { on := 11, ground := Ground.chain }, { on := 0, ground := Ground.phase }, { on := 1, ground := Ground.phase }, { on := 2, ground := Ground.phase }, { on := 3, ground := Ground.phase }, { on := 4, ground := Ground.phase }, { on := 5, ground := Ground.phase }, { on := 6, ground := Ground.phase }, { on := 7, ground := Ground.phase }, { on := 8, ground := Ground.phase }, { on := 9, ground := Ground.phase }, { on := 10, ground := Ground.phase }, { on := 11, ground := Ground.phase }, { on := 12, ground := Ground.phase }, { on := 13, ground := Ground.phase }, { on := 14, ground := Ground.textOnly Departure.lateStores }], guard := none }) (v := ?vb15) rfl (by kernel_rfl) (by kernel_rfl) (by kernel_rfl) (fun _ _ _ h => h) (Or.inl ⟨by rfl, ?yb15⟩) hd3 ?_
            case yb15 =>
              intro w hSw
              go_simp; all_goals (with_reducible rfl)
            simp only [Act.put, List.setIfInBounds_toArray, List.set_cons_zero, List.set_cons_succ]
            refine wpAnyH_take (i := 16) (oi := { dst := some 9, op := Op.assign (Operand.tmp 59), type := 32, pos := "law.go:74", after := #[{ on := 14, ground := Ground.data }, { on := 15, ground := Ground.chain }, { on := 0, ground := Ground.phase }, { on := 1, ground := Ground.phase }, { on := 2, ground := Ground.phase }, { on := 3, ground := Ground.phase }, { on := 4, ground := Ground.phase }, { on := 5, ground := Ground.phase }, { on := 6, ground := Ground.phase }, { on := 7, ground := Ground.phase }, { on := 8, ground := Ground.phase }, { on := 9, ground := Ground.phase }, { on := 10, ground := Ground.phase }, { on := 11, ground := Ground.phase }, { on := 12, ground := Ground.phase }, { on := 13, ground := Ground.phase }, { on := 14, ground := Ground.phase }, { on := 15, ground := Ground.phase }], guard := none }) (v := ?vb16) rfl (by kernel_rfl) (by kernel_rfl) (by kernel_rfl) (fun _ _ _ h => h) (Or.inl ⟨by rfl, ?yb16⟩) hd3 ?_
            case yb16 =>
              intro w hSw
              go_simp; all_goals (with_reducible rfl)
            simp only [Act.put, List.setIfInBounds_toArray, List.set_cons_zero, List.set_cons_succ]
            refine wpAnyH_done (by kernel_rfl) ?_ _
            rw [show bitI false = 0 from rfl]
            have hfit : ((saids D t).length + 1) * 4 ≤ 140737488355328 := by rw [saids_length]; omega
            have hb4 : Below w.heap.size w (w3.alloc (.cells #[.int .u32 0] 33)) := hb3.alloc hb3.size _
            go_wp2_with (at_builtin; refine wpList_append_one rfl (.tmp 60) (.tmp 63) rfl w.heap.size _ u6 (saids D t) rfl (hW3.below ((Below.refl _ _).alloc (Nat.le_refl _) _)) w3.heap.size 0 1 rfl (one32 w3 0) hfit hb4.size ?_; intro v5 w5 hW5 hg5; obtain ⟨hE5, hb5⟩ := coded_grown hE3 hW3 hb3 _ hg5)
            go_roundw
            case rel => exact ⟨t + 1, by omega, congrArg (Value.int .i64) (by omega), o3, cap3, by rw [show runE D (t + 1) = stepE (runE D t) (D t) from rfl, HDT.out, HST.out]; exact hE5, by rw [saids_succ, HDT.out, HSV.out]; exact hW5, hg, ho3, hb5⟩
            case measure => simp [intOf] <;> omega

          ·
            have hbn : (d.bit != 0) = true := by simp [hb0]
            have hsv : saidOf d = 1 := by unfold saidOf; rw [if_pos hw0, hbn]; rfl
            have hst : stepE (runE D t) d = (runE D t).bit d.chance.toNat true := by unfold stepE; rw [if_pos hw0, hbn]
            have HB := Lib.hid (fun (w' : World) (hE' : EncAt w' g o cap (runE D t)) => bit_any g o cap (runE D t) d.chance d.bit w' hE' hok (by omega))
            simp only [hbn] at HB
            have HSV := Lib.hid hsv
            have HST := Lib.hid hst
            have hst2 : (runE D t).bit d.chance.toNat true = Rc.St.scale 2 ((runE D t).pick (Rc.fair d.chance.toNat) true) := rfl
            rw [← hst2] at HB
            generalize (runE D t).bit d.chance.toNat true = s' at *
            generalize Rc.next (Rc.fair d.chance.toNat) true = nx at *
            have HW0 := Lib.hid hw0
            have HB0 := Lib.hid hb0
            clear hw0 hb0 hsv hst hst2 hbn
            go_wp2_with fail
            refine wp_region_held_drew (S := fun w' => DeedAt w' bd (offd + t * 5) d) (by kernel_rfl) hd1 (fun hS => ?_)
            refine wpAnyH_take (i := 0) (oi := { dst := some 46, op := Op.move (Operand.tmp 5), type := 46, pos := "law.go:74", after := #[], guard := none }) (v := ?va17) rfl (by kernel_rfl) (by kernel_rfl) (by kernel_rfl) (fun _ _ _ h => h) (Or.inl ⟨by rfl, ?ya17⟩) hS ?_
            case ya17 =>
              intro w hSw
              go_simp; all_goals (with_reducible rfl)
            simp only [Act.put, List.setIfInBounds_toArray, List.set_cons_zero, List.set_cons_succ]
            refine wpAnyH_take (i := 1) (oi := { dst := some 47, op := Op.move (Operand.tmp 0), type := 23, pos := "law.go:74", after := #[], guard := none }) (v := ?va18) rfl (by kernel_rfl) (by kernel_rfl) (by kernel_rfl) (fun _ _ _ h => h) (Or.inl ⟨by rfl, ?ya18⟩) hS ?_
            case ya18 =>
              intro w hSw
              go_simp; all_goals (with_reducible rfl)
            simp only [Act.put, List.setIfInBounds_toArray, List.set_cons_zero, List.set_cons_succ]
            refine wpAnyH_take (i := 2) (oi := { dst := some 48, op := Op.move (Operand.tmp 7), type := 3, pos := "law.go:74", after := #[], guard := none }) (v := ?va19) rfl (by kernel_rfl) (by kernel_rfl) (by kernel_rfl) (fun _ _ _ h => h) (Or.inl ⟨by rfl, ?ya19⟩) hS ?_
            case ya19 =>
              intro w hSw
              go_simp; all_goals (with_reducible rfl)
            simp only [Act.put, List.setIfInBounds_toArray, List.set_cons_zero, List.set_cons_succ]
            refine wpAnyH_take (i := 3) (oi := { dst := some 49, op := Op.indexAddr 23 (Operand.tmp 47) (Operand.tmp 48), type := 0, pos := "law.go:74", after := #[{ on := 1, ground := Ground.data }, { on := 2, ground := Ground.data }], guard := none }) (v := ?va20) rfl (by kernel_rfl) (by kernel_rfl) (by kernel_rfl) (fun _ _ _ h => h) (Or.inl ⟨by rfl, ?ya20⟩) hS ?_
            case ya20 =>
              intro w hSw
              go_simp; all_goals (with_reducible rfl)
            simp only [Act.put, List.setIfInBounds_toArray, List.set_cons_zero, List.set_cons_succ]
            refine wpAnyH_take (i := 4) (oi := { dst := some 50, op := Op.fieldAddr 35 (Operand.tmp 49) 1, type := 0, pos := "law.go:74", after := #[{ on := 3, ground := Ground.data }], guard := none }) (v := ?va21) rfl (by kernel_rfl) (by kernel_rfl) (by kernel_rfl) (fun _ _ _ h => h) (Or.inl ⟨by rfl, ?ya21⟩) hS ?_
            case ya21 =>
              intro w hSw
              go_simp; all_goals (with_reducible rfl)
            simp only [Act.put, List.setIfInBounds_toArray, List.set_cons_zero, List.set_cons_succ]
            refine wpAnyH_take (i := 5) (oi := { dst := some 51, op := Op.load 32 (Operand.tmp 50), type := 32, pos := "law.go:74", after := #[{ on := 4, ground := Ground.data }], guard := none }) (v := ?va22) rfl (by kernel_rfl) (by kernel_rfl) (by kernel_rfl) (fun _ _ _ h => h) (Or.inl ⟨by rfl, ?ya22⟩) hS ?_
            case ya22 =>
              intro w hSw
              obtain ⟨j0, j1, j2, j3, j4, _, _, _⟩ := hSw
              go_simp; all_goals (with_reducible rfl)
            simp only [Act.put, List.setIfInBounds_toArray, List.set_cons_zero, List.set_cons_succ]
            refine wpAnyH_take (i := 6) (oi := { dst := some 52, op := Op.move (Operand.tmp 0), type := 23, pos := "law.go:74", after := #[], guard := none }) (v := ?va23) rfl (by kernel_rfl) (by kernel_rfl) (by kernel_rfl) (fun _ _ _ h => h) (Or.inl ⟨by rfl, ?ya23⟩) hS ?_
            case ya23 =>
              intro w hSw
              go_simp; all_goals (with_reducible rfl)
            simp only [Act.put, List.setIfInBounds_toArray, List.set_cons_zero, List.set_cons_succ]
            refine wpAnyH_take (i := 7) (oi := { dst := some 53, op := Op.move (Operand.tmp 7), type := 3, pos := "law.go:74", after := #[], guard := none }) (v := ?va24) rfl (by kernel_rfl) (by kernel_rfl) (by kernel_rfl) (fun _ _ _ h => h) (Or.inl ⟨by rfl, ?ya24⟩) hS ?_
            case ya24 =>
              intro w hSw
              go_simp; all_goals (with_reducible rfl)
            simp only [Act.put, List.setIfInBounds_toArray, List.set_cons_zero, List.set_cons_succ]
            refine wpAnyH_take (i := 8) (oi := { dst := some 54, op := Op.indexAddr 23 (Operand.tmp 52) (Operand.tmp 53), type := 0, pos := "law.go:74", after := #[{ on := 6, ground := Ground.data }, { on := 7, ground := Ground.data }], guard := none }) (v := ?va25) rfl (by kernel_rfl) (by kernel_rfl) (by kernel_rfl) (fun _ _ _ h => h) (Or.inl ⟨by rfl, ?ya25⟩) hS ?_
            case ya25 =>
              intro w hSw
              go_simp; all_goals (with_reducible rfl)
            simp only [Act.put, List.setIfInBounds_toArray, List.set_cons_zero, List.set_cons_succ]
            refine wpAnyH_take (i := 9) (oi := { dst := some 55, op := Op.fieldAddr 35 (Operand.tmp 54) 2, type := 0, pos := "law.go:74", after := #[{ on := 8, ground := Ground.data }], guard := none }) (v := ?va26) rfl (by kernel_rfl) (by kernel_rfl) (by kernel_rfl) (fun _ _ _ h => h) (Or.inl ⟨by rfl, ?ya26⟩) hS ?_
            case ya26 =>
              intro w hSw
              go_simp; all_goals (with_reducible rfl)
            simp only [Act.put, List.setIfInBounds_toArray, List.set_cons_zero, List.set_cons_succ]
            refine wpAnyH_take (i := 10) (oi := { dst := some 56, op := Op.load 3 (Operand.tmp 55), type := 3, pos := "law.go:74", after := #[{ on := 9, ground := Ground.data }], guard := none }) (v := ?va27) rfl (by kernel_rfl) (by kernel_rfl) (by kernel_rfl) (fun _ _ _ h => h) (Or.inl ⟨by rfl, ?ya27⟩) hS ?_
            case ya27 =>
              intro w hSw
              obtain ⟨j0, j1, j2, j3, j4, _, _, _⟩ := hSw
              go_simp; all_goals (with_reducible rfl)
            simp only [Act.put, List.setIfInBounds_toArray, List.set_cons_zero, List.set_cons_succ]
            refine wpAnyH_ready (rs := [11]) (by kernel_rfl) (by simp) ?_
            refine (AllReadyH.cons (o := { dst := some 57, op := Op.call { callee := Callee.value (Operand.func 17), args := #[Operand.tmp 46, Operand.tmp 51, Operand.tmp 56], argTypes := #[46, 32, 3] }, type := 36, pos := "law.go:74", after := #[{ on := 0, ground := Ground.data }, { on := 5, ground := Ground.data }, { on := 10, ground := Ground.data }], guard := none }) rfl (fun K hK => ?_) AllReadyH.nil)
            go_simp
            refine (HB.out _ (hE.below (drew_below _))).mono ?_
            rintro e w3 ⟨rfl, hsh⟩
            obtain ⟨o3, cap3, hE3, hW3, ho3, hb3⟩ := coded_shift hE hW hg ho hbel hsh.undrew
            have hd3 := hd00.below hb3 hab
            go_wp2_with fail
            refine hK.out _ _ hd3 (fun _ => ?_)
            clear hK K
            refine wpAnyH_take (i := 12) (oi := { dst := some 45, op := Op.move (Operand.tmp 57), type := 36, pos := "law.go:74", after := #[{ on := 11, ground := Ground.data }], guard := none }) (v := ?va28) rfl (by kernel_rfl) (by kernel_rfl) (by kernel_rfl) (fun _ _ _ h => h) (Or.inl ⟨by rfl, ?ya28⟩) hd3 ?_
            case ya28 =>
              intro w hSw
              go_simp; all_goals (with_reducible rfl)
            simp only [Act.put, List.setIfInBounds_toArray, List.set_cons_zero, List.set_cons_succ]
            refine wpAnyH_take (i := 13) (oi := { dst := some 58, op := Op.extract (Operand.tmp 45) 0, type := 3, pos := "law.go:74", after := #[{ on := 12, ground := Ground.data }], guard := none }) (v := ?va29) rfl (by kernel_rfl) (by kernel_rfl) (by kernel_rfl) (fun _ _ _ h => h) (Or.inl ⟨by rfl, ?ya29⟩) hd3 ?_
            case ya29 =>
              intro w hSw
              go_simp; all_goals (with_reducible rfl)
            simp only [Act.put, List.setIfInBounds_toArray, List.set_cons_zero, List.set_cons_succ]
            refine wpAnyH_take (i := 14) (oi := { dst := some 59, op := Op.extract (Operand.tmp 45) 1, type := 32, pos := "law.go:74", after := #[{ on := 12, ground := Ground.data }, { on := 15, ground := Ground.gcOnly Departure.lateStores }], guard := none }) (v := ?va30) rfl (by kernel_rfl) (by kernel_rfl) (by kernel_rfl) (fun _ _ _ h => h) (Or.inl ⟨by rfl, ?ya30⟩) hd3 ?_
            case ya30 =>
              intro w hSw
              go_simp; all_goals (with_reducible rfl)
            simp only [Act.put, List.setIfInBounds_toArray, List.set_cons_zero, List.set_cons_succ]
            refine wpAnyH_take (i := 15) (oi := { dst := some 8, op := Op.assign (Operand.tmp 58), type := 3, pos := "law.go:74", after := #[{ on := 13, ground := Ground.data }, { on := 11, ground := Ground.chain }, { on := 0, ground := Ground.phase }, { on := 1, ground := Ground.phase }, { on := 2, ground := Ground.phase }, { on := 3, ground := Ground.phase }, { on := 4, ground := Ground.phase }, { on := 5, ground := Ground.phase }, { on := 6, ground := Ground.phase }, { on := 7, ground := Ground.phase }, { on := 8, ground := Ground.phase }, { on := 9, ground := Ground.phase }, { on := 10, ground := Ground.phase }, { on := 11, ground := Ground.phase }, { on := 12, ground := Ground.phase }, { on := 13, ground := Ground.phase }, { on := 14, ground := Ground.textOnly Departure.lateStores }], guard := none }) (v := ?va31) rfl (by kernel_rfl) (by kernel_rfl) (by kernel_rfl) (fun _ _ _ h => h) (Or.inl ⟨by rfl, ?ya31⟩) hd3 ?_
            case ya31 =>
              intro w hSw
              go_simp; all_goals (with_reducible rfl)
            simp only [Act.put, List.setIfInBounds_toArray, List.set_cons_zero, List.set_cons_succ]
            refine wpAnyH_take (i := 16) (oi := { dst := some 9, op := Op.assign (Operand.tmp 59), type := 32, pos := "law.go:74", after := #[{ on := 14, ground := Ground.data }, { on := 15, ground := Ground.chain }, { on := 0, ground := Ground.phase }, { on := 1, ground := Ground.phase }, { on := 2, ground := Ground.phase }, { on := 3, ground := Ground.phase }, { on := 4, ground := Ground.phase }, { on := 5, ground := Ground.phase }, { on := 6, ground := Ground.phase }, { on := 7, ground := Ground.phase }, { on := 8, ground := Ground.phase }, { on := 9, ground := Ground.phase }, { on := 10, ground := Ground.phase }, { on := 11, ground := Ground.phase }, { on := 12, ground := Ground.phase }, { on := 13, ground := Ground.phase }, { on := 14, ground := Ground.phase }, { on := 15, ground := Ground.phase }], guard := none }) (v := ?va32) rfl (by kernel_rfl) (by kernel_rfl) (by kernel_rfl) (fun _ _ _ h => h) (Or.inl ⟨by rfl, ?ya32⟩) hd3 ?_
            case ya32 =>
              intro w hSw
              go_simp; all_goals (with_reducible rfl)
            simp only [Act.put, List.setIfInBounds_toArray, List.set_cons_zero, List.set_cons_succ]
            refine wpAnyH_done (by kernel_rfl) ?_ _
            rw [show bitI true = 1 from rfl]
            have hfit : ((saids D t).length + 1) * 4 ≤ 140737488355328 := by rw [saids_length]; omega
            have hb4 : Below w.heap.size w (w3.alloc (.cells #[.int .u32 1] 33)) := hb3.alloc hb3.size _
            go_wp2_with (at_builtin; refine wpList_append_one rfl (.tmp 60) (.tmp 63) rfl w.heap.size _ u6 (saids D t) rfl (hW3.below ((Below.refl _ _).alloc (Nat.le_refl _) _)) w3.heap.size 1 1 rfl (one32 w3 1) hfit hb4.size ?_; intro v5 w5 hW5 hg5; obtain ⟨hE5, hb5⟩ := coded_grown hE3 hW3 hb3 _ hg5)
            go_roundw
            case rel => exact ⟨t + 1, by omega, congrArg (Value.int .i64) (by omega), o3, cap3, by rw [show runE D (t + 1) = stepE (runE D t) (D t) from rfl, HDT.out, HST.out]; exact hE5, by rw [saids_succ, HDT.out, HSV.out]; exact hW5, hg, ho3, hb5⟩
            case measure => simp [intOf] <;> omega

        · have hw0b : (d.what == 0) = false := by simp [hw0]
          have hsv : saidOf d = d.v.toNat % 2 ^ many d.n := by unfold saidOf; rw [if_neg hw0]
          have hst : stepE (runE D t) d = (runE D t).plain d.v.toNat (many d.n) := by unfold stepE; rw [if_neg hw0]
          have hpl := fun (w' : World) (hE' : EncAt w' g o cap (runE D t)) => plain_any g o cap (runE D t) d.v d.n w' hE' hok (by omega)
          simp only [Rc.plain_mod] at hpl
          have HP := Lib.hid hpl
          generalize (runE D t).plain d.v.toNat (many d.n) = s' at *
          generalize d.v.toNat % 2 ^ many d.n = sv at *
          have HSV := Lib.hid hsv
          have HST := Lib.hid hst
          have HW0 := Lib.hid hw0
          clear hw0 hsv hst hpl
          have hfit : ((saids D t).length + 1) * 4 ≤ 140737488355328 := by rw [saids_length]; omega
          go_wp2_with fail
          refine wp_region_held_drew (S := fun w' => DeedAt w' bd (offd + t * 5) d) (by kernel_rfl) hd1 (fun hS => ?_)
          refine wpAnyH_take (i := 0) (oi := { dst := some 65, op := Op.move (Operand.tmp 6), type := 48, pos := "law.go:77", after := #[], guard := none }) (v := ?vc33) rfl (by kernel_rfl) (by kernel_rfl) (by kernel_rfl) (fun _ _ _ h => h) (Or.inl ⟨by rfl, ?yc33⟩) hS ?_
          case yc33 =>
            intro w hSw
            go_simp; all_goals (with_reducible rfl)
          simp only [Act.put, List.setIfInBounds_toArray, List.set_cons_zero, List.set_cons_succ]
          refine wpAnyH_take (i := 1) (oi := { dst := some 66, op := Op.move (Operand.tmp 5), type := 46, pos := "law.go:77", after := #[], guard := none }) (v := ?vc34) rfl (by kernel_rfl) (by kernel_rfl) (by kernel_rfl) (fun _ _ _ h => h) (Or.inl ⟨by rfl, ?yc34⟩) hS ?_
          case yc34 =>
            intro w hSw
            go_simp; all_goals (with_reducible rfl)
          simp only [Act.put, List.setIfInBounds_toArray, List.set_cons_zero, List.set_cons_succ]
          refine wpAnyH_take (i := 2) (oi := { dst := some 67, op := Op.move (Operand.tmp 0), type := 23, pos := "law.go:77", after := #[], guard := none }) (v := ?vc35) rfl (by kernel_rfl) (by kernel_rfl) (by kernel_rfl) (fun _ _ _ h => h) (Or.inl ⟨by rfl, ?yc35⟩) hS ?_
          case yc35 =>
            intro w hSw
            go_simp; all_goals (with_reducible rfl)
          simp only [Act.put, List.setIfInBounds_toArray, List.set_cons_zero, List.set_cons_succ]
          refine wpAnyH_take (i := 3) (oi := { dst := some 68, op := Op.move (Operand.tmp 7), type := 3, pos := "law.go:77", after := #[], guard := none }) (v := ?vc36) rfl (by kernel_rfl) (by kernel_rfl) (by kernel_rfl) (fun _ _ _ h => h) (Or.inl ⟨by rfl, ?yc36⟩) hS ?_
          case yc36 =>
            intro w hSw
            go_simp; all_goals (with_reducible rfl)
          simp only [Act.put, List.setIfInBounds_toArray, List.set_cons_zero, List.set_cons_succ]
          refine wpAnyH_take (i := 4) (oi := { dst := some 69, op := Op.indexAddr 23 (Operand.tmp 67) (Operand.tmp 68), type := 0, pos := "law.go:77", after := #[{ on := 2, ground := Ground.data }, { on := 3, ground := Ground.data }], guard := none }) (v := ?vc37) rfl (by kernel_rfl) (by kernel_rfl) (by kernel_rfl) (fun _ _ _ h => h) (Or.inl ⟨by rfl, ?yc37⟩) hS ?_
          case yc37 =>
            intro w hSw
            go_simp; all_goals (with_reducible rfl)
          simp only [Act.put, List.setIfInBounds_toArray, List.set_cons_zero, List.set_cons_succ]
          refine wpAnyH_take (i := 5) (oi := { dst := some 70, op := Op.fieldAddr 35 (Operand.tmp 69) 3, type := 0, pos := "law.go:77", after := #[{ on := 4, ground := Ground.data }], guard := none }) (v := ?vc38) rfl (by kernel_rfl) (by kernel_rfl) (by kernel_rfl) (fun _ _ _ h => h) (Or.inl ⟨by rfl, ?yc38⟩) hS ?_
          case yc38 =>
            intro w hSw
            go_simp; all_goals (with_reducible rfl)
          simp only [Act.put, List.setIfInBounds_toArray, List.set_cons_zero, List.set_cons_succ]
          refine wpAnyH_take (i := 6) (oi := { dst := some 71, op := Op.load 33 (Operand.tmp 70), type := 33, pos := "law.go:77", after := #[{ on := 5, ground := Ground.data }], guard := none }) (v := ?vc39) rfl (by kernel_rfl) (by kernel_rfl) (by kernel_rfl) (fun _ _ _ h => h) (Or.inl ⟨by rfl, ?yc39⟩) hS ?_
          case yc39 =>
            intro w hSw
            obtain ⟨j0, j1, j2, j3, j4, _, _, _⟩ := hSw
            go_simp; all_goals (with_reducible rfl)
          simp only [Act.put, List.setIfInBounds_toArray, List.set_cons_zero, List.set_cons_succ]
          refine wpAnyH_take (i := 7) (oi := { dst := some 72, op := Op.move (Operand.tmp 0), type := 23, pos := "law.go:77", after := #[], guard := none }) (v := ?vc40) rfl (by kernel_rfl) (by kernel_rfl) (by kernel_rfl) (fun _ _ _ h => h) (Or.inl ⟨by rfl, ?yc40⟩) hS ?_
          case yc40 =>
            intro w hSw
            go_simp; all_goals (with_reducible rfl)
          simp only [Act.put, List.setIfInBounds_toArray, List.set_cons_zero, List.set_cons_succ]
          refine wpAnyH_take (i := 8) (oi := { dst := some 73, op := Op.move (Operand.tmp 7), type := 3, pos := "law.go:77", after := #[], guard := none }) (v := ?vc41) rfl (by kernel_rfl) (by kernel_rfl) (by kernel_rfl) (fun _ _ _ h => h) (Or.inl ⟨by rfl, ?yc41⟩) hS ?_
          case yc41 =>
            intro w hSw
            go_simp; all_goals (with_reducible rfl)
          simp only [Act.put, List.setIfInBounds_toArray, List.set_cons_zero, List.set_cons_succ]
          refine wpAnyH_take (i := 9) (oi := { dst := some 74, op := Op.indexAddr 23 (Operand.tmp 72) (Operand.tmp 73), type := 0, pos := "law.go:77", after := #[{ on := 7, ground := Ground.data }, { on := 8, ground := Ground.data }], guard := none }) (v := ?vc42) rfl (by kernel_rfl) (by kernel_rfl) (by kernel_rfl) (fun _ _ _ h => h) (Or.inl ⟨by rfl, ?yc42⟩) hS ?_
          case yc42 =>
            intro w hSw
            go_simp; all_goals (with_reducible rfl)
          simp only [Act.put, List.setIfInBounds_toArray, List.set_cons_zero, List.set_cons_succ]
          refine wpAnyH_take (i := 10) (oi := { dst := some 75, op := Op.fieldAddr 35 (Operand.tmp 74) 4, type := 0, pos := "law.go:77", after := #[{ on := 9, ground := Ground.data }], guard := none }) (v := ?vc43) rfl (by kernel_rfl) (by kernel_rfl) (by kernel_rfl) (fun _ _ _ h => h) (Or.inl ⟨by rfl, ?yc43⟩) hS ?_
          case yc43 =>
            intro w hSw
            go_simp; all_goals (with_reducible rfl)
          simp only [Act.put, List.setIfInBounds_toArray, List.set_cons_zero, List.set_cons_succ]
          refine wpAnyH_take (i := 11) (oi := { dst := some 76, op := Op.load 3 (Operand.tmp 75), type := 3, pos := "law.go:77", after := #[{ on := 10, ground := Ground.data }], guard := none }) (v := ?vc44) rfl (by kernel_rfl) (by kernel_rfl) (by kernel_rfl) (fun _ _ _ h => h) (Or.inl ⟨by rfl, ?yc44⟩) hS ?_
          case yc44 =>
            intro w hSw
            obtain ⟨j0, j1, j2, j3, j4, _, _, _⟩ := hSw
            go_simp; all_goals (with_reducible rfl)
          simp only [Act.put, List.setIfInBounds_toArray, List.set_cons_zero, List.set_cons_succ]
          refine wpAnyH_ready (rs := [12]) (by kernel_rfl) (by simp) ?_
          refine (AllReadyH.cons (o := { dst := some 77, op := Op.call { callee := Callee.value (Operand.func 18), args := #[Operand.tmp 66, Operand.tmp 71, Operand.tmp 76], argTypes := #[46, 33, 3] }, type := 33, pos := "law.go:77", after := #[{ on := 1, ground := Ground.data }, { on := 6, ground := Ground.data }, { on := 11, ground := Ground.data }], guard := none }) rfl (fun K hK => ?_) AllReadyH.nil)
          go_simp
          refine (HP.out _ (hE.below (drew_below _))).mono ?_
          rintro e w3 ⟨rfl, hsh⟩
          obtain ⟨o3, cap3, hE3, hW3, ho3, hb3⟩ := coded_shift hE hW hg ho hbel hsh.undrew
          have hd3 := hd00.below hb3 hab
          go_wp2_with fail
          refine hK.out _ _ hd3 (fun _ => ?_)
          clear hK K
          refine wpAnyH_ready (rs := [13]) (by kernel_rfl) (by simp) ?_
          refine (AllReadyH.cons (o := { dst := some 78, op := Op.buildSlice 48 1 #[(0, Operand.tmp 77)], type := 48, pos := "law.go:77", after := #[{ on := 12, ground := Ground.data }], guard := none }) rfl (fun K hK => ?_) AllReadyH.nil)
          go_simp
          have hb4 : Below w.heap.size w (w3.alloc (.cells #[U32 sv] 33)) := hb3.alloc hb3.size _
          have hd4 := hd00.below hb4 hab
          refine hK.out _ _ hd4 (fun _ => ?_)
          clear hK K
          refine wpAnyH_ready (rs := [14]) (by kernel_rfl) (by simp) ?_
          refine (AllReadyH.cons (o := { dst := some 79, op := Op.call { callee := Callee.builtin Builtin.append, args := #[Operand.tmp 65, Operand.tmp 78], argTypes := #[48, 48] }, type := 48, pos := "law.go:77", after := #[{ on := 0, ground := Ground.data }, { on := 13, ground := Ground.data }, { on := 12, ground := Ground.chain }], guard := none }) rfl (fun K hK => ?_) AllReadyH.nil)
          refine step_append_one rfl (.tmp 65) (.tmp 78) rfl w.heap.size (w3.alloc (.cells #[U32 sv] 33)) u6 (saids D t) rfl (hW3.below ((Below.refl _ _).alloc (Nat.le_refl _) _)) w3.heap.size sv 1 rfl (one32 w3 sv) hfit hb4.size ?_
          intro v5 w5 hW5 hg5
          obtain ⟨hE5, hb5⟩ := coded_grown hE3 hW3 hb3 _ hg5
          have hd5 := hd00.below hb5 hab
          simp only [Act.put, List.setIfInBounds_toArray, List.set_cons_zero, List.set_cons_succ]
          refine hK.out _ _ hd5 (fun _ => ?_)
          clear hK K
          refine wpAnyH_take (i := 15) (oi := { dst := some 6, op := Op.assign (Operand.tmp 79), type := 48, pos := "law.go:77", after := #[{ on := 14, ground := Ground.data }, { on := 14, ground := Ground.chain }, { on := 0, ground := Ground.phase }, { on := 1, ground := Ground.phase }, { on := 2, ground := Ground.phase }, { on := 3, ground := Ground.phase }, { on := 4, ground := Ground.phase }, { on := 5, ground := Ground.phase }, { on := 6, ground := Ground.phase }, { on := 7, ground := Ground.phase }, { on := 8, ground := Ground.phase }, { on := 9, ground := Ground.phase }, { on := 10, ground := Ground.phase }, { on := 11, ground := Ground.phase }, { on := 12, ground := Ground.phase }, { on := 13, ground := Ground.phase }, { on := 14, ground := Ground.phase }], guard := none }) (v := ?vc45) rfl (by kernel_rfl) (by kernel_rfl) (by kernel_rfl) (fun _ _ _ h => h) (Or.inl ⟨by rfl, ?yc45⟩) hd5 ?_
          case yc45 =>
            intro w hSw
            go_simp; all_goals (with_reducible rfl)
          simp only [Act.put, List.setIfInBounds_toArray, List.set_cons_zero, List.set_cons_succ]
          refine wpAnyH_done (by kernel_rfl) ?_ _
          go_wp2_with fail
          go_roundw
          case rel => exact ⟨t + 1, by omega, congrArg (Value.int .i64) (by omega), o3, cap3, by rw [show runE D (t + 1) = stepE (runE D t) (D t) from rfl, HDT.out, HST.out]; exact hE5, by rw [saids_succ, HDT.out, HSV.out]; exact hW5, hg, ho3, hb5⟩
          case measure => simp [intOf] <;> omega
    · obtain rfl : len = t := by omega
      have hlt' : ¬ (len : Int) < len := by omega
      go_wp2_with fail
      refine (bytes_any g o cap (runE D len) _ hE (by omega)).mono ?_
      rintro e wp ⟨v5, rfl, hO5, hb5⟩
      obtain ⟨A5, c5, rfl, hc5, hm5, hBp⟩ := hO5.read
      have hWp := hW.below hb5
      have hbp : Below w.heap.size w wp := hbel.trans (hb5.mono hbel.size)
      have hAg := be_agree (runE D len)
      have hBl := Rc.be_length (5 + (runE D len).k) (runE D len).v
      generalize Rc.be (5 + (runE D len).k) (runE D len).v = Bl at *
      have hmore : ∃ mb : UInt8, (more.toNat : Int) = (mb.toNat : Int) := ⟨⟨more⟩, rfl⟩
      obtain ⟨mb, hmb⟩ := hmore
      rw [hmb]
      clear hE hW hbel hb5 hO5 hg ho hmb
      have HAG := Lib.hid hAg
      have HBL := Lib.hid hBl
      have hBl5 : ¬ ((Bl.length : Int) < 5) := by omega
      have hBlk : Bl.length ≤ 10000 := by omega
      have hBlp : 0 < Bl.length := by omega
      clear hAg hBl
      go_wp2_with fail
      go_loopw [11] (fun kk wr => ∃ k : Nat, k ≤ 3 ∧ kk = .int .i64 (k : Nat) ∧ Below wp.heap.size wp wr) (fun kk _ => 3 - (intOf kk).toNat)
      case atStart => exact ⟨0, by omega, rfl, Below.refl _ _⟩
      case round =>
        obtain ⟨k, hk3, rfl, hbr⟩ := hrel
        by_cases hkl : k < 3
        · have hkl' : (k : Int) < 3 := by omega
          have hBr := hBp.below hbr
          generalize hNb : Bl.length = Nb at *
          have HNB := Lib.hid hNb
          have HSRC := Lib.hid (show Value.slice A5 Nb c5 = .slice A5 Bl.length c5 by rw [hNb])
          have hfit : ([] : List UInt8).length + Bl.length ≤ 140737488355328 := by rw [hNb]; simp; omega
          have hoe : Own wr.heap.size (wr.alloc (.cells #[] 5)) (.slice (some ⟨wr.heap.size, 0, none⟩) 0 0) [] := Own.lit wr [] (Nat.le_refl _) (by simp)
          have hb0 : Below wr.heap.size wr (wr.alloc (.cells #[] 5)) := (Below.refl _ _).alloc (Nat.le_refl _) _
          have hs0 : wr.heap.size ≤ (wr.alloc (.cells #[] 5)).heap.size := hb0.size
          clear hNb
          go_upto_if 93 with (at_builtin; refine wpList_append_bytes rfl (.tmp 89) (.tmp 90) rfl wr.heap.size _ _ [] rfl hoe A5 Bl c5 HSRC.out (hBr.below hb0) hfit hs0 ?_; intro v6 w6 ho6 hg6; have hb6 : Below wr.heap.size wr w6 := below_grown hb0 hg6 hs0 (fun g' hg' => (hoe.from_base g' hg').1); rw [List.nil_append] at ho6; obtain ⟨A6, c6, rfl, hc6, hm6, hB6⟩ := ho6.read)
          have hb7 : Below wp.heap.size wp w6 := hbr.trans (hb6.mono hbr.size)
          clear hoe hb0 hs0 hfit HSRC hg6
          go_cut [12] (fun s12 wx => AllAt wp (if k = 1 then Bl ++ [mb] else Bl) s12 wx)
          case first =>
            by_cases hk1 : k = 1
            · have hk1b : ((k : Int) == 1) = true := by simp [hk1]
              have HK1 := Lib.hid hk1
              have hfit2 : Bl.length + [mb].length ≤ 140737488355328 := by rw [HNB.out]; simp; omega
              have hone : Bytes (w6.alloc (.cells #[.int .u8 (mb.toNat : Nat)] 5)) (some ⟨w6.heap.size, 0, none⟩) [mb] := Bytes.one w6 mb
              have hoa := ho6.alloc (.cells #[.int .u8 (mb.toNat : Nat)] 5)
              have hba := hb6.alloc hb6.size (.cells #[.int .u8 (mb.toNat : Nat)] 5)
              clear hk1
              go_wp2_with (at_builtin; refine wpList_append_bytes rfl (.tmp 94) (.tmp 96) rfl wr.heap.size _ _ Bl rfl hoa (some ⟨w6.heap.size, 0, none⟩) [mb] 1 rfl hone hfit2 hba.size ?_; intro v7 w7 ho7 hg7; have hb8 : Below wr.heap.size wr w7 := below_grown hba hg7 hba.size (fun g' hg' => (hoa.from_base g' hg').1); obtain ⟨A7, c7, rfl, hc7, hm7, hB7⟩ := ho7.read)
              go_meet
              rw [if_pos HK1.out]
              exact ⟨A7, c7, by rw [List.length_append]; rfl, hc7, hm7, hB7, hbr.trans (hb8.mono hbr.size)⟩
            · have hk1b : ((k : Int) == 1) = false := by simp; omega
              have HK1 := Lib.hid hk1
              clear hk1
              go_wp2_with fail
              go_meet
              rw [if_neg HK1.out]
              exact ⟨A6, c6, rfl, hc6, hm6, hB6, hb7⟩
          case rest =>
            clear ho6 hB6 hb6 hb7 hc6 hm6
            obtain ⟨A8, c8, rfl, hc8, hm8, hB8, hb8⟩ := hcut
            generalize hL1 : (if k = 1 then Bl ++ [mb] else Bl) = L1 at *
            have hL1p : 5 ≤ L1.length := by
              rw [← hL1]; have := HNB.out
              split
              · simp; omega
              · omega
            have HL1 := Lib.hid hL1
            clear hL1
            go_upto_if 99 with (fail)
            go_cut [12] (fun s12 wx => AllAt wp (LL Bl mb k) s12 wx)
            case first =>
              by_cases hk2 : k = 2
              · have hk2b : ((k : Int) == 2) = true := by simp [hk2]
                have hLL : LL Bl mb k = L1.take (L1.length - 1) := by rw [← HL1.out]; subst hk2; rfl
                have hlen : (L1.take (L1.length - 1)).length = L1.length - 1 := by simp
                have hBt := hB8.take (L1.length - 1)
                have HK2 := Lib.hid hk2
                have HLL := Lib.hid hLL
                have HLEN := Lib.hid hlen
                generalize hN1 : L1.length = N1 at *
                have hsb : (N1 : Int) - 1 = ((N1 - 1 : Nat) : Int) := by omega
                have hz1 : N1 - 1 ≤ c8 := by omega
                have HZ := Lib.hid hsb
                clear hk2 hLL hlen hN1
                go_wp2_with fail
                go_meet
                rw [HLL.out]
                refine ⟨A8, c8, ?_, by rw [HLEN.out]; exact hz1, hm8, hBt, hb8⟩
                rw [HLEN.out]
              · have hk2b : ((k : Int) == 2) = false := by simp; omega
                have hLL : LL Bl mb k = L1 := by rw [← HL1.out]; unfold LL; rw [if_neg hk2]
                have HLL := Lib.hid hLL
                clear hk2 hLL
                go_wp2_with fail
                go_meet
                rw [HLL.out]
                exact ⟨A8, c8, rfl, hc8, hm8, hB8, hb8⟩
            case rest =>
              clear hB8 hb8 hc8 hm8 hL1p HL1
              obtain ⟨A9, c9, rfl, hc9, hm9, hB9, hb9⟩ := hcut
              have hLA := LL_agree HAG.out (HNB.out.trans HBL.out) mb k
              have hsaid := fun (h5 : 5 + (runE D len).k ≤ (LL Bl mb k).length) (t : Nat) (ht : t < len) => said_run hLA h5 ht
              have hend := fun (h5 : 5 ≤ (LL Bl mb k).length) => LL_end HAG.out (HNB.out.trans HBL.out) mb k h5
              have hz0 := fun (h : 0 < (LL Bl mb k).length) => agree_zero hLA hok h
              have hbig : k ≠ 2 → 5 + (runE D len).k ≤ (LL Bl mb k).length := by
                intro h2
                have := HNB.out; have := HBL.out
                unfold LL; rw [if_neg h2]; split
                · simp; omega
                · omega
              have hsm : (LL Bl mb k).length ≤ 20000 := by
                have := HNB.out
                unfold LL; split
                · simp; omega
                · split
                  · simp; omega
                  · omega
              have HSAID := Lib.hid hsaid
              have HEND := Lib.hid hend
              have HZ0 := Lib.hid hz0
              have HBIG := Lib.hid hbig
              clear hsaid hend hz0 hbig hLA
              generalize LL Bl mb k = L at *
              by_cases hsh : L.length < 5
              · have hsh' : (L.length : Int) < 5 := by omega
                have HNEW := Lib.hid (dnew_short A9 L c9 wc hsh)
                generalize L.length = NL at *
                go_wp2_with fail
                refine HNEW.out.mono ?_
                rintro e w' ⟨rfl, rfl⟩
                go_wp2_with fail
                go_roundw
                case rel => exact ⟨k + 1, by omega, congrArg (Value.int .i64) (by omega), hb9⟩
                case measure => simp [intOf] <;> omega
              · have hsh' : ¬ (L.length : Int) < 5 := by omega
                have h5 : 5 ≤ L.length := by omega
                have HNEW := Lib.hid (dnew_good A9 L c9 wc hB9 h5 (by omega) (HZ0.out (by omega)))
                have hEND := HEND.out h5
                have HEN := Lib.hid hEND
                have hstok := Rd.start_ok h5
                generalize hNL : L.length = NL at *
                have HNL := Lib.hid hNL
                clear hEND HEND HZ0 hNL
                go_wp2_with fail
                refine HNEW.out.mono ?_
                rintro e w2 ⟨g2, o2, cap2, rfl, hD2, hb2, hg2, ho2⟩
                have hb3 : Below wp.heap.size wp w2 := hb9.trans (hb2.mono hb9.size)
                have hsz9 := hb9.size
                clear HNEW hB9 hb9 hb2
                go_wp2_with fail
                go_loopw [15, 16] (fun sm i wr => ∃ (t : Nat) (b : Bool), t ≤ len ∧ i = .int .i64 (t : Nat) ∧ sm = .bool b ∧ DecIs wr g2 o2 cap2 L (runD L D t) ∧ (runD L D t).ok L ∧ Below wp.heap.size wp wr ∧ Hid (5 + (runE D len).k ≤ NL → b = true)) (fun _ i _ => len - (intOf i).toNat)
                case atStart => exact ⟨0, true, by omega, rfl, rfl, hD2, hstok, hb3, fun _ => rfl⟩
                case round =>
                  obtain ⟨t, b, ht2, rfl, rfl, hD, hqok, hbe, hbt⟩ := hrel
                  clear hD2 hb3
                  by_cases hlt2 : t < len
                  · obtain ⟨bd, offd, rfl, hab, hd⟩ := hB.resolve_left (by omega)
                    have hbw : Below w.heap.size w wr := hbp.trans (hbe.mono hbp.size)
                    have hd0 := (hd t hlt2).below hbw hab
                    have hlt2' : (t : Int) < len := by omega
                    have e0 := hd0.c0
                    have e1 := hd0.c1
                    have e4 := hd0.c4
                    have hstepq : runD L D (t + 1) = (stepD L (runD L D t) (D t)).2 := rfl
                    have hsd := fun (h : 5 + (runE D len).k ≤ NL) => HSAID.out (by omega) t hlt2
                    have HSD := Lib.hid hsd
                    have hWr := hWp.below hbe
                    obtain ⟨gw, capw, rfl, _, _⟩ := World.ownsRow.form hWr (by rw [saids_length]; omega)
                    have hcw := fun (wx : World) (h : Below wp.heap.size wp wx) => (Want.cell (hWp.below h) rfl (i := t) (by rw [saids_length]; omega) : wx.cell? ⟨gw, t, none⟩ = _)
                    have hge : (saids D len)[t]'(by rw [saids_length]; omega) = saidOf (D t) := by simp [saids]
                    rw [hge] at hcw
                    have hqok' : (runD L D (t + 1)).ok L := by
                      rw [hstepq]; unfold stepD; split
                      · exact Rd.St.bit_ok hqok (Rc.fair_bounds _).1 (Rc.fair_bounds _).2
                      · have hro := (Rd.St.rounds_ok hqok (many (D t).n)).1
                        unfold Rd.St.plain; split <;> exact hro
                    have HCW := Lib.hid hcw
                    have HQ := Lib.hid hstepq
                    have HB2 := Lib.hid hB
                    clear hge hcw hWr
                    generalize hSL : (saids D len).length = SL at *
                    have hSLl : t < SL := by rw [← hSL, saids_length]; omega
                    generalize D t = d at *
                    clear hd hB hsd hstepq hSL
                    go_upto_if 136 with (fail)
                    go_cut [17] (fun s17 wx => GotAt wp g2 o2 cap2 L (stepD L (runD L D t) d).1 (runD L D (t + 1)) s17 wx)
                    case first =>
                      by_cases hw0 : d.what = 0
                      · have hw0b : (d.what == 0) = true := by simp [hw0]
                        have hst : stepD L (runD L D t) d = ((bitI ((runD L D t).bit L (Rc.fair d.chance.toNat)).1).toNat, ((runD L D t).bit L (Rc.fair d.chance.toNat)).2) := by unfold stepD; rw [if_pos hw0]
                        have HB := Lib.hid (dbit_any g2 o2 cap2 L (runD L D t) d.chance 0 wr hD hqok (by have := HNL.out; omega))
                        rw [hst] at HQ
                        have HST := Lib.hid hst
                        generalize ((runD L D t).bit L (Rc.fair d.chance.toNat)).2 = q' at *
                        generalize ((runD L D t).bit L (Rc.fair d.chance.toNat)).1 = bt at *
                        generalize Rc.next (Rc.fair d.chance.toNat) bt = nx at *
                        have HW0 := Lib.hid hw0
                        clear hw0 hst
                        cases bt with
                        | false =>
                          go_wp2_with fail
                          refine HB.out.mono ?_
                          rintro e w4 ⟨rfl, hD4, hon4⟩
                          rw [show bitI false = 0 from rfl]
                          go_wp2_with fail
                          go_meet
                          exact ⟨by rw [HST.out]; rfl, by rw [HQ.out]; exact hD4, hbe.trans (hon4.below hbe.size (by intro i hi; simp at hi; omega))⟩
                        | true =>
                          go_wp2_with fail
                          refine HB.out.mono ?_
                          rintro e w4 ⟨rfl, hD4, hon4⟩
                          rw [show bitI true = 1 from rfl]
                          go_wp2_with fail
                          go_meet
                          exact ⟨by rw [HST.out]; rfl, by rw [HQ.out]; exact hD4, hbe.trans (hon4.below hbe.size (by intro i hi; simp at hi; omega))⟩
                      · have hw0b : (d.what == 0) = false := by simp [hw0]
                        have hst : stepD L (runD L D t) d = (runD L D t).plain L (many d.n) := by unfold stepD; rw [if_neg hw0]
                        have HP := Lib.hid (dplain_any g2 o2 cap2 L (runD L D t) 0#32 d.n wr hD hqok (by have := HNL.out; omega))
                        rw [hst] at HQ
                        have HST := Lib.hid hst
                        generalize (runD L D t).plain L (many d.n) = pq at *
                        obtain ⟨pv, q'⟩ := pq
                        simp only at HP HQ
                        have HW0 := Lib.hid hw0
                        clear hw0 hst
                        go_wp2_with fail
                        refine HP.out.mono ?_
                        rintro e w4 ⟨rfl, hD4, hon4⟩
                        go_wp2_with fail
                        go_meet
                        exact ⟨by rw [HST.out], by rw [HQ.out]; exact hD4, hbe.trans (hon4.below hbe.size (by intro i hi; simp at hi; omega))⟩
                    case rest =>
                      clear hD hqok hbe hd0 e0 e1 e4 hbw HQ
                      obtain ⟨rfl, hD, hbe⟩ := hcut
                      have hcell := HCW.out _ hbe
                      clear HCW
                      generalize (stepD L (runD L D t) d).1 = got at *
                      generalize saidOf d = sd at *
                      cases b with
                      | true =>
                        by_cases hgs : got = sd
                        · have hgb : ((got : Int) == (sd : Int)) = true := by simp [hgs]
                          clear hgs
                          go_wp2_with fail
                          go_roundw
                          case rel => exact ⟨t + 1, true, by omega, congrArg (Value.int .i64) (by omega), rfl, hD, hqok', hbe, fun _ => rfl⟩
                          case measure => simp [intOf] <;> omega
                        · have hgb : ((got : Int) == (sd : Int)) = false := beq_eq_false_iff_ne.2 (by omega)
                          have HGS := Lib.hid hgs
                          clear hgs
                          go_wp2_with fail
                          go_roundw
                          case rel => exact ⟨t + 1, false, by omega, congrArg (Value.int .i64) (by omega), rfl, hD, hqok', hbe, fun h => absurd (HSD.out h) HGS.out⟩
                          case measure => simp [intOf] <;> omega
                      | false =>
                        go_wp2_with fail
                        go_roundw
                        case rel => exact ⟨t + 1, false, by omega, congrArg (Value.int .i64) (by omega), rfl, hD, hqok', hbe, hbt⟩
                        case measure => simp [intOf] <;> omega
                  · obtain rfl : len = t := by omega
                    have hlt2' : ¬ (len : Int) < len := by omega
                    have HDN := Lib.hid (fun (wx : World) (h : DecIs wx g2 o2 cap2 L (runD L D len)) => done_any g2 o2 cap2 L _ wx h)
                    have HOU := Lib.hid (fun (wx : World) (h : DecIs wx g2 o2 cap2 L (runD L D len)) => out_any g2 o2 cap2 L _ wx h)
                    by_cases hk0 : k = 0
                    · have b0 : ((k : Int) == 0) = true := by simp [hk0]
                      have b1 : ((k : Int) == 1) = false := beq_eq_false_iff_ne.2 (by omega)
                      have b2 : ((k : Int) == 2) = false := beq_eq_false_iff_ne.2 (by omega)
                      obtain rfl : b = true := hbt.out (by have := HBIG.out (by omega); omega)
                      have hdn := HEN.out.1 hk0
                      rw [hdn] at HDN
                      have HK := Lib.hid hk0
                      clear hdn hk0
                      go_wp2_with fail
                      refine (HDN.out _ hD).mono ?_
                      rintro e w4 ⟨rfl, hb4⟩
                      go_wp2_with fail
                      go_roundw
                      case rel => exact ⟨k + 1, by omega, congrArg (Value.int .i64) (by omega), hbe.trans (hb4.mono hbe.size)⟩
                      case measure => simp [intOf] <;> omega
                    · by_cases hk1 : k = 1
                      · have b0 : ((k : Int) == 0) = false := beq_eq_false_iff_ne.2 (by omega)
                        have b1 : ((k : Int) == 1) = true := by simp [hk1]
                        have b2 : ((k : Int) == 2) = false := beq_eq_false_iff_ne.2 (by omega)
                        obtain rfl : b = true := hbt.out (by have := HBIG.out (by omega); omega)
                        obtain ⟨hdn, hou⟩ := HEN.out.2.1 hk1
                        rw [hdn] at HDN
                        rw [hou] at HOU
                        have HK := Lib.hid hk1
                        clear hdn hou hk0 hk1
                        go_wp2_with fail
                        refine (HDN.out _ hD).mono ?_
                        rintro e w4 ⟨rfl, hb4⟩
                        go_wp2_with fail
                        refine (HOU.out _ (hD.below hb4)).mono ?_
                        rintro e w' ⟨rfl, rfl⟩
                        go_wp2_with fail
                        go_roundw
                        case rel => exact ⟨k + 1, by omega, congrArg (Value.int .i64) (by omega), hbe.trans (hb4.mono hbe.size)⟩
                        case measure => simp [intOf] <;> omega
                      · have b0 : ((k : Int) == 0) = false := beq_eq_false_iff_ne.2 (by omega)
                        have b1 : ((k : Int) == 1) = false := beq_eq_false_iff_ne.2 (by omega)
                        have hk2 : k = 2 := by omega
                        have b2 : ((k : Int) == 2) = true := by simp [hk2]
                        have hdn := HEN.out.2.2 hk2
                        rw [hdn] at HDN
                        have HK := Lib.hid hk2
                        clear hdn hk0 hk1 hk2
                        go_wp2_with fail
                        refine (HDN.out _ hD).mono ?_
                        rintro e w4 ⟨rfl, hb4⟩
                        go_wp2_with fail
                        go_roundw
                        case rel => exact ⟨k + 1, by omega, congrArg (Value.int .i64) (by omega), hbe.trans (hb4.mono hbe.size)⟩
                        case measure => simp [intOf] <;> omega
        · have hkl' : ¬ (k : Int) < 3 := by omega
          go_wp2_with fail
          refine (dknows_any _).mono ?_
          rintro e w7 ⟨rfl, hb7⟩
          go_wp2_with fail
          go_ret
          have b6 := hbp.trans (hbr.mono hbp.size)
          exact ⟨rfl, b6.trans (hb7.mono b6.size)⟩
end Go.Proofs.Ytaacfdlnoeiojaa
