/- The contracts of the laws DeltaCodes and DeltaRows. -/
import Derived.Test.YtonpdnagoapjoaaDeltaRef
import Derived.Deep.RegionHeld3
namespace Go.Proofs.Ytonpdnagoapjoaa
open Go.RowKit

theorem below_after {a b c : World} (h : Below a.heap.size a b) (k : Below b.heap.size b c) : Below a.heap.size a c := h.trans (k.mono h.size)
theorem four_new (w : World) : Bytes (w.alloc (.cells #[.int .u8 1, .int .u8 3, .int .u8 6, .int .u8 10] 5)) (some ⟨w.heap.size, 0, none⟩) [1, 3, 6, 10] := by
  refine .inr ⟨_, _, rfl, by simp, fun k hk => ?_⟩
  rw [cell_of_row _ _ _ _ _ _ (heap_alloc_last _ _), Nat.zero_add]
  have hk9 : k < 4 := by simpa using hk
  match k, hk9 with
  | 0, _ | 1, _ | 2, _ | 3, _ => rfl
theorem enc_example : Delta.enc [1, 3, 6, 10] 1 = [1, 2, 3, 4] := by decide

set_option maxRecDepth 100000 in
set_option maxHeartbeats 400000 in
theorem knows_any (w : World) : Calls Try.prog 5 #[] w (Holds w) := by
  have hb0 : Below w.heap.size w (w.alloc (.cells #[.int .u8 1, .int .u8 3, .int .u8 6, .int .u8 10] 5)) := (Below.refl _ _).alloc (Nat.le_refl _) _
  have hB := four_new w
  go_enter Try.func5, Try.ntmps5
  go_wp2_with fail
  refine (encode_any _ [1, 3, 6, 10] 4 1 _ hB (by simp) (by omega) (by omega)).mono ?_
  rintro e w1 ⟨v, rfl, ho, hb1⟩
  rw [show (1 : Int).toNat = 1 from rfl, enc_example] at ho
  obtain ⟨A, c, rfl, hc, hm, hB1⟩ := ho.read
  have g1 := hb0.trans (hb1.mono hb0.size)
  have hs : (convert 22 9 (.slice A 4 c)).run Try.prog w1 = .ok (.string ⟨#[1, 2, 3, 4]⟩) w1 := run_str hB1 c
  clear hb0 hB ho hb1
  go_wp2_with fail
  refine (decode_no none 0 0 0 _ (.inl (by omega))).mono ?_
  rintro e w2 ⟨rfl, rfl⟩
  go_wp2_with fail
  go_ret
  exact ⟨rfl, g1⟩

set_option maxRecDepth 100000 in
set_option maxHeartbeats 1000000 in
theorem codes_law (A : Option Addr) (l : List UInt8) (c : Nat) (d : Int) (w : World) (hB : Bytes w A l) (_hc : l.length ≤ c) (_hm : c ≤ 9223372036854775807) (_hd1 : -9223372036854775808 ≤ d) (_hd2 : d ≤ 9223372036854775807) :
    Calls Try.prog 3 #[.slice A l.length c, .int .i64 d] w (Holds w) := by
  by_cases h1 : 1000 < l.length
  · have h1' : (1000 : Int) < l.length := by omega
    go_enter Try.func3, Try.ntmps3
    go_wp2_with fail
    refine (knows_any _).mono ?_
    rintro e w' ⟨rfl, hb⟩
    go_wp2_with fail
    go_ret
    exact ⟨rfl, hb⟩
  have h1' : (l.length : Int) ≤ 1000 := by omega
  have ho : Own w.heap.size (w.alloc (.cells #[] 5)) (.slice (some ⟨w.heap.size, 0, none⟩) 0 0) [] := Own.lit w [] (Nat.le_refl _) (by simp)
  have hb0 : Below w.heap.size w (w.alloc (.cells #[] 5)) := (Below.refl _ _).alloc (Nat.le_refl _) _
  have hs0 : w.heap.size ≤ (w.alloc (.cells #[] 5)).heap.size := hb0.size
  have hlen : ([] : List UInt8).length + l.length ≤ 140737488355328 := by simp; omega
  by_cases hd : d < 1 ∨ 256 < d
  · go_enter Try.func3, Try.ntmps3
    go_wp2_with (at_builtin; refine wpList_append_bytes rfl (.tmp 18) (.tmp 19) rfl w.heap.size _ _ [] rfl ho A l c rfl (hB.below hb0) hlen hs0 ?_; intro v1 w1 ho1 hg1; have hb1 : Below w.heap.size w w1 := below_grown hb0 hg1 hs0 (fun g hg => (ho.from_base g hg).1))
    rw [List.nil_append] at ho1
    obtain ⟨A1, c1, rfl, hc1, hm1, hB1⟩ := ho1.read
    clear ho hb0 hs0 hlen hg1 ho1
    refine (encode_no A1 l.length c1 d _ hd).mono ?_
    rintro e w' ⟨rfl, rfl⟩
    go_wp2_with fail
    refine (decode_no A1 l.length c1 d _ hd).mono ?_
    rintro e w' ⟨rfl, rfl⟩
    have k1 := run_str hB1 c1
    have k2 := run_str (hB.below hb1) c
    have k3 : (d < 1 ∨ 256 < d) = True := by simp [hd]
    rcases hd with hd | hd
    · go_wp2_with fail
      refine (knows_any _).mono ?_
      rintro e w2 ⟨rfl, hb2⟩
      go_wp2_with fail
      go_ret
      exact ⟨rfl, hb1.trans (hb2.mono hb1.size)⟩
    · have hd' : ¬ d < 1 := by omega
      go_wp2_with fail
      refine (knows_any _).mono ?_
      rintro e w2 ⟨rfl, hb2⟩
      go_wp2_with fail
      go_ret
      exact ⟨rfl, hb1.trans (hb2.mono hb1.size)⟩
  · have hda : 1 ≤ d := by omega
    have hdb : d ≤ 256 := by omega
    go_enter Try.func3, Try.ntmps3
    go_wp2_with (at_builtin; refine wpList_append_bytes rfl (.tmp 18) (.tmp 19) rfl w.heap.size _ _ [] rfl ho A l c rfl (hB.below hb0) hlen hs0 ?_; intro v1 w1 ho1 hg1; have hb1 : Below w.heap.size w w1 := below_grown hb0 hg1 hs0 (fun g hg => (ho.from_base g hg).1))
    rw [List.nil_append] at ho1
    obtain ⟨A1, c1, rfl, hc1, hm1, hB1⟩ := ho1.read
    clear ho hb0 hs0 hlen hg1 ho1
    refine (encode_any A1 l c1 d _ hB1 (by omega) hda hdb).mono ?_
    rintro e w2 ⟨vx, rfl, hox, hb2⟩
    have g2 := hb1.trans (hb2.mono hb1.size)
    go_wp2_with fail
    refine (decode_any A1 l c1 d _ (hB1.below hb2) (by omega) hda hdb).mono ?_
    rintro e w3 ⟨vy, rfl, hoy, hb3⟩
    have g3 := g2.trans (hb3.mono g2.size)
    have q3 := hb2.trans (hb3.mono hb2.size)
    have hox3 := hox.below hb3
    obtain ⟨Ax, cx, rfl, hcx, hmx, hBx⟩ := hox3.read
    obtain ⟨Ay, cy, rfl, hcy, hmy, hBy⟩ := hoy.read
    have k1 := run_str (hB1.below q3) c1
    have k2 := run_str (hB.below g3) c
    generalize hxl : Delta.enc l d.toNat = lx at *
    generalize hyl : Delta.dec l d.toNat = ly at *
    have HX := Lib.hid hxl
    have HY := Lib.hid hyl
    clear hxl hyl hox hoy hox3 hd
    go_wp2_with fail
    have kx : ∀ w', Below w3.heap.size w3 w' → (convert 22 9 (.slice Ax lx.length cx)).run Try.prog w' = .ok (.string ⟨lx.toArray⟩) w' := fun w' h => run_str (hBx.below h) cx
    have ky : ∀ w', Below w3.heap.size w3 w' → (convert 22 9 (.slice Ay ly.length cy)).run Try.prog w' = .ok (.string ⟨ly.toArray⟩) w' := fun w' h => run_str (hBy.below h) cy
    have hdr : Below w3.heap.size w3 w3.drew := (Below.refl _ _).drew
    have g1 : decide (d < 1) = false := by simp; omega
    have g2' : decide (256 < d) = false := by simp; omega
    clear k1 k2
    refine wp_region_held_drew (S := fun w' => Below w3.heap.size w3 w') (by kernel_rfl) hdr (fun hS => ?_)
    refine wpAnyH_take (i := 0) (oi := { dst := some 63, op := Op.move (Operand.tmp 6), type := 22, pos := "law.go:31", after := #[], guard := none }) (v := ?vp0) rfl (by kernel_rfl) (by kernel_rfl) (by kernel_rfl) (fun _ _ _ h => h) (Or.inl ⟨by rfl, ?yp0⟩) hS ?_
    case yp0 => intro w hSw; go_simp; all_goals (with_reducible rfl)
    simp only [Act.put, List.setIfInBounds_toArray, List.set_cons_zero, List.set_cons_succ]
    refine wpAnyH_take (i := 1) (oi := { dst := some 64, op := Op.convert 22 9 (Operand.tmp 63), type := 9, pos := "law.go:31", after := #[{ on := 0, ground := Ground.data }], guard := none }) (v := ?vp1) rfl (by kernel_rfl) (by kernel_rfl) (by kernel_rfl) (fun _ _ _ h => h) (Or.inl ⟨by rfl, ?yp1⟩) hS ?_
    case yp1 => intro w hSw; go_simp; all_goals (with_reducible rfl)
    simp only [Act.put, List.setIfInBounds_toArray, List.set_cons_zero, List.set_cons_succ]
    refine wpAnyH_take (i := 2) (oi := { dst := some 65, op := Op.move (Operand.tmp 0), type := 22, pos := "law.go:31", after := #[], guard := none }) (v := ?vp2) rfl (by kernel_rfl) (by kernel_rfl) (by kernel_rfl) (fun _ _ _ h => h) (Or.inl ⟨by rfl, ?yp2⟩) hS ?_
    case yp2 => intro w hSw; go_simp; all_goals (with_reducible rfl)
    simp only [Act.put, List.setIfInBounds_toArray, List.set_cons_zero, List.set_cons_succ]
    refine wpAnyH_take (i := 3) (oi := { dst := some 66, op := Op.move (Operand.tmp 1), type := 3, pos := "law.go:31", after := #[], guard := none }) (v := ?vp3) rfl (by kernel_rfl) (by kernel_rfl) (by kernel_rfl) (fun _ _ _ h => h) (Or.inl ⟨by rfl, ?yp3⟩) hS ?_
    case yp3 => intro w hSw; go_simp; all_goals (with_reducible rfl)
    simp only [Act.put, List.setIfInBounds_toArray, List.set_cons_zero, List.set_cons_succ]
    refine wpAnyH_ready (rs := [4]) (by kernel_rfl) (by simp) ?_
    refine AllReadyH.cons (o := { dst := some 67, op := Op.call { callee := Callee.value (Operand.func 8), args := #[Operand.tmp 65, Operand.tmp 66], argTypes := #[22, 3] }, type := 22, pos := "law.go:31", after := #[{ on := 2, ground := Ground.data }, { on := 3, ground := Ground.data }], guard := none }) rfl (fun K hK => ?_) AllReadyH.nil
    go_simp
    refine (refenc_any A l c d w3.drew (hB.below (below_after g3 hdr)) (by omega) hda hdb).mono ?_; rintro e w4 ⟨vr, rfl, hor, hb4⟩; rw [HX.out] at hor; obtain ⟨Ar, cr, rfl, _, _, hBr⟩ := hor.read; have kr := run_str hBr cr; have g4 := below_after hdr hb4; clear hor hb4 hBr; go_wp2_with fail
    refine hK.out _ _ g4 (fun hSp4 => ?_)
    clear hK K
    refine wpAnyH_ready (rs := [5]) (by kernel_rfl) (by simp) ?_
    refine AllReadyH.cons (o := { dst := some 68, op := Op.convert 22 9 (Operand.tmp 67), type := 9, pos := "law.go:31", after := #[{ on := 4, ground := Ground.data }], guard := none }) rfl (fun K hK => ?_) AllReadyH.nil
    go_simp
    refine hK.out _ _ hSp4 (fun _ => ?_)
    clear hK K
    refine wpAnyH_take (i := 6) (oi := { dst := some 69, op := Op.binOp BinOp.neq 9 (Operand.tmp 64) (Operand.tmp 68) 9, type := 4, pos := "law.go:31", after := #[{ on := 1, ground := Ground.data }, { on := 5, ground := Ground.data }], guard := none }) (v := ?vp6) rfl (by kernel_rfl) (by kernel_rfl) (by kernel_rfl) (fun _ _ _ h => h) (Or.inl ⟨by rfl, ?yp6⟩) hSp4 ?_
    case yp6 => intro w hSw; go_simp; all_goals (with_reducible rfl)
    simp only [Act.put, List.setIfInBounds_toArray, List.set_cons_zero, List.set_cons_succ]
    refine wpAnyH_take (i := 7) (oi := { dst := some 70, op := Op.move (Operand.tmp 69), type := 4, pos := "law.go:31", after := #[{ on := 6, ground := Ground.data }, { on := 4, ground := Ground.chain }], guard := none }) (v := ?vp7) rfl (by kernel_rfl) (by kernel_rfl) (by kernel_rfl) (fun _ _ _ h => h) (Or.inl ⟨by rfl, ?yp7⟩) hSp4 ?_
    case yp7 => intro w hSw; go_simp; all_goals (with_reducible rfl)
    simp only [Act.put, List.setIfInBounds_toArray, List.set_cons_zero, List.set_cons_succ]
    refine wpAnyH_take (i := 8) (oi := { dst := some 71, op := Op.move (Operand.tmp 8), type := 22, pos := "law.go:31", after := #[{ on := 7, ground := Ground.guard }], guard := some (7, false) }) (v := ?vp8) rfl (by kernel_rfl) (by kernel_rfl) (by kernel_rfl) (fun _ _ _ h => h) (Or.inl ⟨by rfl, ?yp8⟩) hSp4 ?_
    case yp8 => intro w hSw; go_simp; all_goals (with_reducible rfl)
    simp only [Act.put, List.setIfInBounds_toArray, List.set_cons_zero, List.set_cons_succ]
    refine wpAnyH_take (i := 9) (oi := { dst := some 72, op := Op.convert 22 9 (Operand.tmp 71), type := 9, pos := "law.go:31", after := #[{ on := 8, ground := Ground.data }, { on := 7, ground := Ground.guard }], guard := some (7, false) }) (v := ?vp9) rfl (by kernel_rfl) (by kernel_rfl) (by kernel_rfl) (fun _ _ _ h => h) (Or.inl ⟨by rfl, ?yp9⟩) hSp4 ?_
    case yp9 => intro w hSw; go_simp; all_goals (with_reducible rfl)
    simp only [Act.put, List.setIfInBounds_toArray, List.set_cons_zero, List.set_cons_succ]
    refine wpAnyH_take (i := 10) (oi := { dst := some 73, op := Op.move (Operand.tmp 0), type := 22, pos := "law.go:31", after := #[{ on := 7, ground := Ground.guard }], guard := some (7, false) }) (v := ?vp10) rfl (by kernel_rfl) (by kernel_rfl) (by kernel_rfl) (fun _ _ _ h => h) (Or.inl ⟨by rfl, ?yp10⟩) hSp4 ?_
    case yp10 => intro w hSw; go_simp; all_goals (with_reducible rfl)
    simp only [Act.put, List.setIfInBounds_toArray, List.set_cons_zero, List.set_cons_succ]
    refine wpAnyH_take (i := 11) (oi := { dst := some 74, op := Op.move (Operand.tmp 1), type := 3, pos := "law.go:31", after := #[{ on := 7, ground := Ground.guard }], guard := some (7, false) }) (v := ?vp11) rfl (by kernel_rfl) (by kernel_rfl) (by kernel_rfl) (fun _ _ _ h => h) (Or.inl ⟨by rfl, ?yp11⟩) hSp4 ?_
    case yp11 => intro w hSw; go_simp; all_goals (with_reducible rfl)
    simp only [Act.put, List.setIfInBounds_toArray, List.set_cons_zero, List.set_cons_succ]
    refine wpAnyH_ready (rs := [12]) (by kernel_rfl) (by simp) ?_
    refine AllReadyH.cons (o := { dst := some 75, op := Op.call { callee := Callee.value (Operand.func 9), args := #[Operand.tmp 73, Operand.tmp 74], argTypes := #[22, 3] }, type := 22, pos := "law.go:31", after := #[{ on := 10, ground := Ground.data }, { on := 11, ground := Ground.data }, { on := 7, ground := Ground.chain }, { on := 7, ground := Ground.guard }], guard := some (7, false) }) rfl (fun K hK => ?_) AllReadyH.nil
    go_simp
    refine (refdec_any A l c d w4 (hB.below (below_after g3 g4)) (by omega) hda hdb).mono ?_; rintro e w5 ⟨vs, rfl, hos, hb5⟩; rw [HY.out] at hos; obtain ⟨As, cs, rfl, _, _, hBs⟩ := hos.read; have ks := run_str hBs cs; have g5 := below_after g4 hb5; clear hos hb5 hBs; go_wp2_with fail
    refine hK.out _ _ g5 (fun hSp12 => ?_)
    clear hK K
    refine wpAnyH_ready (rs := [13]) (by kernel_rfl) (by simp) ?_
    refine AllReadyH.cons (o := { dst := some 76, op := Op.convert 22 9 (Operand.tmp 75), type := 9, pos := "law.go:31", after := #[{ on := 12, ground := Ground.data }, { on := 7, ground := Ground.guard }], guard := some (7, false) }) rfl (fun K hK => ?_) AllReadyH.nil
    go_simp
    refine hK.out _ _ hSp12 (fun _ => ?_)
    clear hK K
    refine wpAnyH_take (i := 14) (oi := { dst := some 77, op := Op.binOp BinOp.neq 9 (Operand.tmp 72) (Operand.tmp 76) 9, type := 4, pos := "law.go:31", after := #[{ on := 9, ground := Ground.data }, { on := 13, ground := Ground.data }, { on := 7, ground := Ground.guard }], guard := some (7, false) }) (v := ?vp14) rfl (by kernel_rfl) (by kernel_rfl) (by kernel_rfl) (fun _ _ _ h => h) (Or.inl ⟨by rfl, ?yp14⟩) hSp12 ?_
    case yp14 => intro w hSw; go_simp; all_goals (with_reducible rfl)
    simp only [Act.put, List.setIfInBounds_toArray, List.set_cons_zero, List.set_cons_succ]
    refine wpAnyH_take (i := 15) (oi := { dst := some 78, op := Op.pick (Operand.tmp 70) (Operand.const (Value.bool true)) (Operand.tmp 77), type := 4, pos := "law.go:31", after := #[{ on := 7, ground := Ground.data }, { on := 14, ground := Ground.data }], guard := none }) (v := ?vp15) rfl (by kernel_rfl) (by kernel_rfl) (by kernel_rfl) (fun _ _ _ h => h) (Or.inl ⟨by rfl, ?yp15⟩) hSp12 ?_
    case yp15 => intro w hSw; go_simp; all_goals (with_reducible rfl)
    simp only [Act.put, List.setIfInBounds_toArray, List.set_cons_zero, List.set_cons_succ]
    refine wpAnyH_take (i := 16) (oi := { dst := some 79, op := Op.move (Operand.tmp 78), type := 4, pos := "law.go:31", after := #[{ on := 15, ground := Ground.data }, { on := 12, ground := Ground.chain }], guard := none }) (v := ?vp16) rfl (by kernel_rfl) (by kernel_rfl) (by kernel_rfl) (fun _ _ _ h => h) (Or.inl ⟨by rfl, ?yp16⟩) hSp12 ?_
    case yp16 => intro w hSw; go_simp; all_goals (with_reducible rfl)
    simp only [Act.put, List.setIfInBounds_toArray, List.set_cons_zero, List.set_cons_succ]
    refine wpAnyH_take (i := 17) (oi := { dst := some 80, op := Op.move (Operand.tmp 7), type := 24, pos := "law.go:31", after := #[{ on := 16, ground := Ground.guard }], guard := some (16, false) }) (v := ?vp17) rfl (by kernel_rfl) (by kernel_rfl) (by kernel_rfl) (fun _ _ _ h => h) (Or.inl ⟨by rfl, ?yp17⟩) hSp12 ?_
    case yp17 => intro w hSw; go_simp; all_goals (with_reducible rfl)
    simp only [Act.put, List.setIfInBounds_toArray, List.set_cons_zero, List.set_cons_succ]
    refine wpAnyH_take (i := 18) (oi := { dst := some 81, op := Op.binOp BinOp.neq 24 (Operand.tmp 80) (Operand.const (Value.int IntKind.i64 0)) 24, type := 4, pos := "law.go:31", after := #[{ on := 17, ground := Ground.data }, { on := 16, ground := Ground.guard }], guard := some (16, false) }) (v := ?vp18) rfl (by kernel_rfl) (by kernel_rfl) (by kernel_rfl) (fun _ _ _ h => h) (Or.inl ⟨by rfl, ?yp18⟩) hSp12 ?_
    case yp18 => intro w hSw; go_simp; all_goals (with_reducible rfl)
    simp only [Act.put, List.setIfInBounds_toArray, List.set_cons_zero, List.set_cons_succ]
    refine wpAnyH_take (i := 19) (oi := { dst := some 82, op := Op.pick (Operand.tmp 79) (Operand.const (Value.bool true)) (Operand.tmp 81), type := 4, pos := "law.go:31", after := #[{ on := 16, ground := Ground.data }, { on := 18, ground := Ground.data }], guard := none }) (v := ?vp19) rfl (by kernel_rfl) (by kernel_rfl) (by kernel_rfl) (fun _ _ _ h => h) (Or.inl ⟨by rfl, ?yp19⟩) hSp12 ?_
    case yp19 => intro w hSw; go_simp; all_goals (with_reducible rfl)
    simp only [Act.put, List.setIfInBounds_toArray, List.set_cons_zero, List.set_cons_succ]
    refine wpAnyH_take (i := 20) (oi := { dst := some 83, op := Op.move (Operand.tmp 82), type := 4, pos := "law.go:31", after := #[{ on := 19, ground := Ground.data }, { on := 16, ground := Ground.chain }], guard := none }) (v := ?vp20) rfl (by kernel_rfl) (by kernel_rfl) (by kernel_rfl) (fun _ _ _ h => h) (Or.inl ⟨by rfl, ?yp20⟩) hSp12 ?_
    case yp20 => intro w hSw; go_simp; all_goals (with_reducible rfl)
    simp only [Act.put, List.setIfInBounds_toArray, List.set_cons_zero, List.set_cons_succ]
    refine wpAnyH_take (i := 21) (oi := { dst := some 84, op := Op.move (Operand.tmp 9), type := 24, pos := "law.go:31", after := #[{ on := 20, ground := Ground.guard }], guard := some (20, false) }) (v := ?vp21) rfl (by kernel_rfl) (by kernel_rfl) (by kernel_rfl) (fun _ _ _ h => h) (Or.inl ⟨by rfl, ?yp21⟩) hSp12 ?_
    case yp21 => intro w hSw; go_simp; all_goals (with_reducible rfl)
    simp only [Act.put, List.setIfInBounds_toArray, List.set_cons_zero, List.set_cons_succ]
    refine wpAnyH_take (i := 22) (oi := { dst := some 85, op := Op.binOp BinOp.neq 24 (Operand.tmp 84) (Operand.const (Value.int IntKind.i64 0)) 24, type := 4, pos := "law.go:31", after := #[{ on := 21, ground := Ground.data }, { on := 20, ground := Ground.guard }], guard := some (20, false) }) (v := ?vp22) rfl (by kernel_rfl) (by kernel_rfl) (by kernel_rfl) (fun _ _ _ h => h) (Or.inl ⟨by rfl, ?yp22⟩) hSp12 ?_
    case yp22 => intro w hSw; go_simp; all_goals (with_reducible rfl)
    simp only [Act.put, List.setIfInBounds_toArray, List.set_cons_zero, List.set_cons_succ]
    refine wpAnyH_take (i := 23) (oi := { dst := some 86, op := Op.pick (Operand.tmp 83) (Operand.const (Value.bool true)) (Operand.tmp 85), type := 4, pos := "law.go:31", after := #[{ on := 20, ground := Ground.data }, { on := 22, ground := Ground.data }], guard := none }) (v := ?vp23) rfl (by kernel_rfl) (by kernel_rfl) (by kernel_rfl) (fun _ _ _ h => h) (Or.inl ⟨by rfl, ?yp23⟩) hSp12 ?_
    case yp23 => intro w hSw; go_simp; all_goals (with_reducible rfl)
    simp only [Act.put, List.setIfInBounds_toArray, List.set_cons_zero, List.set_cons_succ]
    refine wpAnyH_done (by kernel_rfl) ?_ _
    clear kx ky kr ks g1 g2'
    have g35 := below_after g3 g5
    have hBx5 := hBx.below g5
    have hBy5 := hBy.below g5
    have hlx : lx.length = l.length := by rw [← HX.out]; exact Delta.enc_length _ _
    have hly : ly.length = l.length := by rw [← HY.out]; exact Delta.dec_length _ _
    have hbx : lx.length ≤ 140737488355328 := by omega
    have hby : ly.length ≤ 140737488355328 := by omega
    have hback1 : Delta.dec lx d.toNat = l := by rw [← HX.out]; exact Delta.dec_enc l _ (by omega)
    have hback2 : Delta.enc ly d.toNat = l := by rw [← HY.out]; exact Delta.enc_dec l _ (by omega)
    have HB1 := Lib.hid hback1
    have HB2 := Lib.hid hback2
    clear hlx hly hback1 hback2
    go_wp2_with fail
    refine (decode_any Ax lx cx d _ hBx5 hbx hda hdb).mono ?_
    rintro e w6 ⟨vu, rfl, hou, hb6⟩
    rw [HB1.out] at hou
    obtain ⟨Au, cu, rfl, _, _, hBu⟩ := hou.read
    have g6 := below_after g35 hb6
    go_wp2_with fail
    refine (encode_any Ay ly cy d _ (hBy5.below hb6) hby hda hdb).mono ?_
    rintro e w7 ⟨vv, rfl, hov, hb7⟩
    rw [HB2.out] at hov
    obtain ⟨Av, cv, rfl, _, _, hBv⟩ := hov.read
    have g7 := below_after g6 hb7
    have ku := run_str (hBu.below hb7) cu
    have kv := run_str hBv cv
    have k0 := run_str (hB.below g7) c
    clear hou hov
    go_wp2_with fail
    refine (knows_any _).mono ?_
    rintro e w8 ⟨rfl, hb8⟩
    go_wp2_with fail
    go_ret
    exact ⟨rfl, below_after g7 hb8⟩
end Go.Proofs.Ytonpdnagoapjoaa
