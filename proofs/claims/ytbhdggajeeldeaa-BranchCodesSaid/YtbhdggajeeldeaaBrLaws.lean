/- knows, and the contracts of BranchCodes and BranchBack. -/
import Derived.Test.YtbhdggajeeldeaaBrRCod2
import Derived.Test.YtbhdggajeeldeaaBrBack
import Derived.Deep.RegionHeld3
namespace Go.Proofs.Ytbhdggajeeldeaa
open Go.RowKit

theorem lit_rows (w : World) : Bytes (w.alloc (.cells #[.int .u8 0, .int .u8 0, .int .u8 0, .int .u8 235] 5)) (some ⟨w.heap.size, 0, none⟩) [0, 0, 0, 235] :=
  have h := (Own.lit (base := w.heap.size) w [0, 0, 0, 235] (Nat.le_refl _) (by simp)).read
  by
    obtain ⟨A, c, e, _, _, hB⟩ := h
    injection e with e1 e2 e3
    subst e1
    exact hB

set_option maxRecDepth 100000 in
set_option maxHeartbeats 400000 in
theorem knows_any (w : World) : Calls Try.prog 5 #[] w (Holds w) := by
  have hb0 : Below w.heap.size w (w.alloc (.cells #[.int .u8 0, .int .u8 0, .int .u8 0, .int .u8 235] 5)) := (Below.refl _ _).alloc (Nat.le_refl _) _
  have HE := Lib.hid (encode_any 7 (Or.inr (Or.inl rfl)) 0 (by omega) (by omega) _ [0, 0, 0, 235] 4 _ (lit_rows w) (by simp))
  rw [example_on] at HE
  have HN := Lib.hid (fun (w' : World) => encode_no 7 2 none 0 0 w' (.inr (by omega)))
  go_enter Try.func5, Try.ntmps5
  go_wp2_with fail
  refine HE.out.mono ?_
  rintro e w1 ⟨v, rfl, ho, hb1⟩
  obtain ⟨A, c, rfl, hc, hm, hB1⟩ := ho.read
  have g1 := hb0.trans (hb1.mono hb0.size)
  clear hb0 ho hb1
  go_wp2_with fail
  refine (HN.out _).mono ?_
  rintro e w2 ⟨rfl, hb2⟩
  have g2 := g1.trans (hb2.mono g1.size)
  have hs : (convert 23 9 (.slice A 4 c)).run Try.prog w2 = .ok (.string ⟨#[2, 0, 0, 235]⟩) w2 := run_str (hB1.below hb2) c
  clear hb2 g1 hB1
  go_wp2_with fail
  go_ret
  exact ⟨rfl, g2⟩

set_option maxRecDepth 100000 in
set_option maxHeartbeats 2000000 in
theorem codes_law (id : Int) (start : Nat) (A : Option Addr) (l : List UInt8) (c : Nat) (w : World) (_lo : -9223372036854775808 ≤ id) (_hi : id ≤ 9223372036854775807) (hst : start < 4294967296) (hB : Bytes w A l) (hc : l.length ≤ c) (hm : c ≤ 9223372036854775807) :
    Calls Try.prog 3 #[.int .i64 id, .int .u32 (start : Nat), .slice A l.length c] w (Holds w) := by
  by_cases h1 : 600 < l.length
  · have h1' : (600 : Int) < l.length := by omega
    go_enter Try.func3, Try.ntmps3
    go_wp2_with fail
    refine (knows_any _).mono ?_
    rintro e w' ⟨rfl, hb⟩
    go_wp2_with fail
    go_ret
    exact ⟨rfl, hb⟩
  have h1' : (l.length : Int) ≤ 600 := by omega
  have ho : Own w.heap.size (w.alloc (.cells #[] 5)) (.slice (some ⟨w.heap.size, 0, none⟩) 0 0) [] := Own.lit w [] (Nat.le_refl _) (by simp)
  have hb0 : Below w.heap.size w (w.alloc (.cells #[] 5)) := (Below.refl _ _).alloc (Nat.le_refl _) _
  have hs0 : w.heap.size ≤ (w.alloc (.cells #[] 5)).heap.size := hb0.size
  have hlen : ([] : List UInt8).length + l.length ≤ 140737488355328 := by simp; omega
  by_cases hmay : mayB id start = true
  · obtain ⟨hid, hs4⟩ := (mayB_iff id start).1 hmay
    have HM := Lib.hid (may_any id start)
    rw [hmay] at HM
    have HE := Lib.hid (fun (A1 : Option Addr) (c1 : Nat) (w' : World) (h : Bytes w' A1 l) => encode_any id hid start hst hs4 A1 l c1 w' h (by omega))
    have HD := Lib.hid (fun (A1 : Option Addr) (c1 : Nat) (w' : World) (h : Bytes w' A1 l) => decode_any id hid start hst hs4 A1 l c1 w' h (by omega))
    have HRC := Lib.hid (fun (back : Bool) (w' : World) (h : Bytes w' A l) => rcode_any id hid back start hst A l c w' h (by omega) hc hm)
    have hx : coded (lowOf id) (cvOf id false) start l = coded (lowOf id) (cvOf id false) start l := rfl
    generalize hX : coded (lowOf id) (cvOf id false) start l = lx at *
    generalize hY : coded (lowOf id) (cvOf id true) start l = ly at *
    have HX := Lib.hid hX
    have HY := Lib.hid hY
    clear hX hY hx hmay hid hs4
    go_enter Try.func3, Try.ntmps3
    go_wp2_with (at_builtin; refine wpList_append_bytes rfl (.tmp 16) (.tmp 17) rfl w.heap.size _ _ [] rfl ho A l c rfl (hB.below hb0) hlen hs0 ?_; intro v1 w1 ho1 hg1; have hb1 : Below w.heap.size w w1 := below_grown hb0 hg1 hs0 (fun g hg => (ho.from_base g hg).1))
    rw [List.nil_append] at ho1
    obtain ⟨A1, c1, rfl, hc1, hm1, hB1⟩ := ho1.read
    clear ho hb0 hs0 hlen hg1 ho1
    refine (HE.out A1 c1 _ hB1).mono ?_
    rintro e w2 ⟨vx, rfl, hox, hb2⟩
    have g2 := hb1.trans (hb2.mono hb1.size)
    go_wp2_with fail
    refine (HD.out A1 c1 _ (hB1.below hb2)).mono ?_
    rintro e w3 ⟨vy, rfl, hoy, hb3⟩
    have g3 := g2.trans (hb3.mono g2.size)
    have q3 := hb2.trans (hb3.mono hb2.size)
    have hox3 := hox.below hb3
    obtain ⟨Ax, cx, rfl, hcx, hmx, hBx⟩ := hox3.read
    obtain ⟨Ay, cy, rfl, hcy, hmy, hBy⟩ := hoy.read
    have k1 := run_str (hB1.below q3) c1
    have k2 := run_str (hB.below g3) c
    clear hox hoy hox3 hb1 hb2 hb3 g2 q3 hB1
    go_wp2_with fail
    refine (HM.out w3).mono ?_
    rintro e w' ⟨rfl, rfl⟩
    go_wp2_with fail
    clear k1 k2
    have kx : ∀ w', Below w3.heap.size w3 w' → (convert 23 9 (.slice Ax lx.length cx)).run Try.prog w' = .ok (.string ⟨lx.toArray⟩) w' := fun w' h => run_str (hBx.below h) cx
    have ky : ∀ w', Below w3.heap.size w3 w' → (convert 23 9 (.slice Ay ly.length cy)).run Try.prog w' = .ok (.string ⟨ly.toArray⟩) w' := fun w' h => run_str (hBy.below h) cy
    have hdr : Below w3.heap.size w3 w3.drew := (Below.refl _ _).drew
    refine wp_region_held_drew (S := fun w' => Below w3.heap.size w3 w') (by kernel_rfl) hdr (fun hS => ?_)
    refine wpAnyH_take (i := 0) (oi := { dst := some 61, op := Op.move (Operand.tmp 8), type := 23, pos := "law.go:31", after := #[], guard := none }) (v := ?vc1) rfl (by kernel_rfl) (by kernel_rfl) (by kernel_rfl) (fun _ _ _ h => h) (Or.inl ⟨by rfl, ?yc1⟩) hS ?_
    case yc1 =>
      intro w hSw
      go_simp; all_goals (with_reducible rfl)
    simp only [Act.put, List.setIfInBounds_toArray, List.set_cons_zero, List.set_cons_succ]
    refine wpAnyH_take (i := 1) (oi := { dst := some 62, op := Op.convert 23 9 (Operand.tmp 61), type := 9, pos := "law.go:31", after := #[{ on := 0, ground := Ground.data }], guard := none }) (v := ?vc2) rfl (by kernel_rfl) (by kernel_rfl) (by kernel_rfl) (fun _ _ _ h => h) (Or.inl ⟨by rfl, ?yc2⟩) hS ?_
    case yc2 =>
      intro w hSw
      go_simp; all_goals (with_reducible rfl)
    simp only [Act.put, List.setIfInBounds_toArray, List.set_cons_zero, List.set_cons_succ]
    refine wpAnyH_take (i := 2) (oi := { dst := some 63, op := Op.move (Operand.tmp 0), type := 3, pos := "law.go:31", after := #[], guard := none }) (v := ?vc3) rfl (by kernel_rfl) (by kernel_rfl) (by kernel_rfl) (fun _ _ _ h => h) (Or.inl ⟨by rfl, ?yc3⟩) hS ?_
    case yc3 =>
      intro w hSw
      go_simp; all_goals (with_reducible rfl)
    simp only [Act.put, List.setIfInBounds_toArray, List.set_cons_zero, List.set_cons_succ]
    refine wpAnyH_take (i := 3) (oi := { dst := some 64, op := Op.move (Operand.tmp 1), type := 22, pos := "law.go:31", after := #[], guard := none }) (v := ?vc4) rfl (by kernel_rfl) (by kernel_rfl) (by kernel_rfl) (fun _ _ _ h => h) (Or.inl ⟨by rfl, ?yc4⟩) hS ?_
    case yc4 =>
      intro w hSw
      go_simp; all_goals (with_reducible rfl)
    simp only [Act.put, List.setIfInBounds_toArray, List.set_cons_zero, List.set_cons_succ]
    refine wpAnyH_take (i := 4) (oi := { dst := some 65, op := Op.move (Operand.tmp 2), type := 23, pos := "law.go:31", after := #[], guard := none }) (v := ?vc5) rfl (by kernel_rfl) (by kernel_rfl) (by kernel_rfl) (fun _ _ _ h => h) (Or.inl ⟨by rfl, ?yc5⟩) hS ?_
    case yc5 =>
      intro w hSw
      go_simp; all_goals (with_reducible rfl)
    simp only [Act.put, List.setIfInBounds_toArray, List.set_cons_zero, List.set_cons_succ]
    refine wpAnyH_ready (rs := [5]) (by kernel_rfl) (by simp) ?_
    refine (AllReadyH.cons (o := { dst := some 66, op := Op.call { callee := Callee.value (Operand.func 9), args := #[Operand.tmp 63, Operand.tmp 64, Operand.tmp 65, Operand.const (Value.bool false)], argTypes := #[3, 22, 23, 4] }, type := 23, pos := "law.go:31", after := #[{ on := 2, ground := Ground.data }, { on := 3, ground := Ground.data }, { on := 4, ground := Ground.data }], guard := none }) rfl (fun K hK => ?_) AllReadyH.nil)
    go_simp
    refine (HRC.out false w3.drew (hB.below (g3.trans (hdr.mono g3.size)))).mono ?_
    rintro e w4 ⟨vr, rfl, hor, hb4⟩
    rw [HX.out] at hor
    obtain ⟨Ar, cr, rfl, _, _, hBr⟩ := hor.read
    have kr := run_str hBr cr
    have g4 := hdr.trans (hb4.mono hdr.size)
    have g04 := g3.trans (g4.mono g3.size)
    clear hor hb4
    go_wp2_with fail
    refine hK.out _ _ g4 (fun _ => ?_)
    clear hK K
    refine wpAnyH_ready (rs := [6]) (by kernel_rfl) (by simp) ?_
    refine (AllReadyH.cons (o := { dst := some 67, op := Op.convert 23 9 (Operand.tmp 66), type := 9, pos := "law.go:31", after := #[{ on := 5, ground := Ground.data }], guard := none }) rfl (fun K hK => ?_) AllReadyH.nil)
    go_simp
    refine hK.out _ _ g4 (fun _ => ?_)
    clear hK K
    refine wpAnyH_take (i := 7) (oi := { dst := some 68, op := Op.binOp BinOp.eql 9 (Operand.tmp 62) (Operand.tmp 67) 9, type := 4, pos := "law.go:31", after := #[{ on := 1, ground := Ground.data }, { on := 6, ground := Ground.data }], guard := none }) (v := ?vc6) rfl (by kernel_rfl) (by kernel_rfl) (by kernel_rfl) (fun _ _ _ h => h) (Or.inl ⟨by rfl, ?yc6⟩) g4 ?_
    case yc6 =>
      intro w hSw
      go_simp; all_goals (with_reducible rfl)
    simp only [Act.put, List.setIfInBounds_toArray, List.set_cons_zero, List.set_cons_succ]
    refine wpAnyH_take (i := 8) (oi := { dst := some 69, op := Op.move (Operand.tmp 68), type := 4, pos := "law.go:31", after := #[{ on := 7, ground := Ground.data }, { on := 5, ground := Ground.chain }], guard := none }) (v := ?vc7) rfl (by kernel_rfl) (by kernel_rfl) (by kernel_rfl) (fun _ _ _ h => h) (Or.inl ⟨by rfl, ?yc7⟩) g4 ?_
    case yc7 =>
      intro w hSw
      go_simp; all_goals (with_reducible rfl)
    simp only [Act.put, List.setIfInBounds_toArray, List.set_cons_zero, List.set_cons_succ]
    refine wpAnyH_take (i := 9) (oi := { dst := some 70, op := Op.move (Operand.tmp 10), type := 23, pos := "law.go:31", after := #[{ on := 8, ground := Ground.guard }], guard := some (8, true) }) (v := ?vc8) rfl (by kernel_rfl) (by kernel_rfl) (by kernel_rfl) (fun _ _ _ h => h) (Or.inl ⟨by rfl, ?yc8⟩) g4 ?_
    case yc8 =>
      intro w hSw
      go_simp; all_goals (with_reducible rfl)
    simp only [Act.put, List.setIfInBounds_toArray, List.set_cons_zero, List.set_cons_succ]
    refine wpAnyH_take (i := 10) (oi := { dst := some 71, op := Op.convert 23 9 (Operand.tmp 70), type := 9, pos := "law.go:31", after := #[{ on := 9, ground := Ground.data }, { on := 8, ground := Ground.guard }], guard := some (8, true) }) (v := ?vc9) rfl (by kernel_rfl) (by kernel_rfl) (by kernel_rfl) (fun _ _ _ h => h) (Or.inl ⟨by rfl, ?yc9⟩) g4 ?_
    case yc9 =>
      intro w hSw
      go_simp; all_goals (with_reducible rfl)
    simp only [Act.put, List.setIfInBounds_toArray, List.set_cons_zero, List.set_cons_succ]
    refine wpAnyH_take (i := 11) (oi := { dst := some 72, op := Op.move (Operand.tmp 0), type := 3, pos := "law.go:31", after := #[{ on := 8, ground := Ground.guard }], guard := some (8, true) }) (v := ?vc10) rfl (by kernel_rfl) (by kernel_rfl) (by kernel_rfl) (fun _ _ _ h => h) (Or.inl ⟨by rfl, ?yc10⟩) g4 ?_
    case yc10 =>
      intro w hSw
      go_simp; all_goals (with_reducible rfl)
    simp only [Act.put, List.setIfInBounds_toArray, List.set_cons_zero, List.set_cons_succ]
    refine wpAnyH_take (i := 12) (oi := { dst := some 73, op := Op.move (Operand.tmp 1), type := 22, pos := "law.go:31", after := #[{ on := 8, ground := Ground.guard }], guard := some (8, true) }) (v := ?vc11) rfl (by kernel_rfl) (by kernel_rfl) (by kernel_rfl) (fun _ _ _ h => h) (Or.inl ⟨by rfl, ?yc11⟩) g4 ?_
    case yc11 =>
      intro w hSw
      go_simp; all_goals (with_reducible rfl)
    simp only [Act.put, List.setIfInBounds_toArray, List.set_cons_zero, List.set_cons_succ]
    refine wpAnyH_take (i := 13) (oi := { dst := some 74, op := Op.move (Operand.tmp 2), type := 23, pos := "law.go:31", after := #[{ on := 8, ground := Ground.guard }], guard := some (8, true) }) (v := ?vc12) rfl (by kernel_rfl) (by kernel_rfl) (by kernel_rfl) (fun _ _ _ h => h) (Or.inl ⟨by rfl, ?yc12⟩) g4 ?_
    case yc12 =>
      intro w hSw
      go_simp; all_goals (with_reducible rfl)
    simp only [Act.put, List.setIfInBounds_toArray, List.set_cons_zero, List.set_cons_succ]
    refine wpAnyH_ready (rs := [14]) (by kernel_rfl) (by simp) ?_
    refine (AllReadyH.cons (o := { dst := some 75, op := Op.call { callee := Callee.value (Operand.func 9), args := #[Operand.tmp 72, Operand.tmp 73, Operand.tmp 74, Operand.const (Value.bool true)], argTypes := #[3, 22, 23, 4] }, type := 23, pos := "law.go:31", after := #[{ on := 11, ground := Ground.data }, { on := 12, ground := Ground.data }, { on := 13, ground := Ground.data }, { on := 8, ground := Ground.chain }, { on := 8, ground := Ground.guard }], guard := some (8, true) }) rfl (fun K hK => ?_) AllReadyH.nil)
    go_simp
    refine (HRC.out true w4 (hB.below g04)).mono ?_
    rintro e w5 ⟨vs, rfl, hos, hb5⟩
    rw [HY.out] at hos
    obtain ⟨As, cs, rfl, _, _, hBs⟩ := hos.read
    have ks := run_str hBs cs
    have g5 := g4.trans (hb5.mono g4.size)
    have g05 := g3.trans (g5.mono g3.size)
    clear hos hb5
    go_wp2_with fail
    refine hK.out _ _ g5 (fun _ => ?_)
    clear hK K
    refine wpAnyH_ready (rs := [15]) (by kernel_rfl) (by simp) ?_
    refine (AllReadyH.cons (o := { dst := some 76, op := Op.convert 23 9 (Operand.tmp 75), type := 9, pos := "law.go:31", after := #[{ on := 14, ground := Ground.data }, { on := 8, ground := Ground.guard }], guard := some (8, true) }) rfl (fun K hK => ?_) AllReadyH.nil)
    go_simp
    refine hK.out _ _ g5 (fun _ => ?_)
    clear hK K
    refine wpAnyH_take (i := 16) (oi := { dst := some 77, op := Op.binOp BinOp.eql 9 (Operand.tmp 71) (Operand.tmp 76) 9, type := 4, pos := "law.go:31", after := #[{ on := 10, ground := Ground.data }, { on := 15, ground := Ground.data }, { on := 8, ground := Ground.guard }], guard := some (8, true) }) (v := ?vc13) rfl (by kernel_rfl) (by kernel_rfl) (by kernel_rfl) (fun _ _ _ h => h) (Or.inl ⟨by rfl, ?yc13⟩) g5 ?_
    case yc13 =>
      intro w hSw
      go_simp; all_goals (with_reducible rfl)
    simp only [Act.put, List.setIfInBounds_toArray, List.set_cons_zero, List.set_cons_succ]
    refine wpAnyH_take (i := 17) (oi := { dst := some 78, op := Op.pick (Operand.tmp 69) (Operand.tmp 77) (Operand.const (Value.bool false)), type := 4, pos := "law.go:31", after := #[{ on := 8, ground := Ground.data }, { on := 16, ground := Ground.data }], guard := none }) (v := ?vc14) rfl (by kernel_rfl) (by kernel_rfl) (by kernel_rfl) (fun _ _ _ h => h) (Or.inl ⟨by rfl, ?yc14⟩) g5 ?_
    case yc14 =>
      intro w hSw
      go_simp; all_goals (with_reducible rfl)
    simp only [Act.put, List.setIfInBounds_toArray, List.set_cons_zero, List.set_cons_succ]
    refine wpAnyH_take (i := 18) (oi := { dst := some 79, op := Op.move (Operand.tmp 78), type := 4, pos := "law.go:31", after := #[{ on := 17, ground := Ground.data }, { on := 14, ground := Ground.chain }], guard := none }) (v := ?vc15) rfl (by kernel_rfl) (by kernel_rfl) (by kernel_rfl) (fun _ _ _ h => h) (Or.inl ⟨by rfl, ?yc15⟩) g5 ?_
    case yc15 =>
      intro w hSw
      go_simp; all_goals (with_reducible rfl)
    simp only [Act.put, List.setIfInBounds_toArray, List.set_cons_zero, List.set_cons_succ]
    refine wpAnyH_take (i := 19) (oi := { dst := some 80, op := Op.move (Operand.tmp 9), type := 25, pos := "law.go:31", after := #[{ on := 18, ground := Ground.guard }], guard := some (18, true) }) (v := ?vc16) rfl (by kernel_rfl) (by kernel_rfl) (by kernel_rfl) (fun _ _ _ h => h) (Or.inl ⟨by rfl, ?yc16⟩) g5 ?_
    case yc16 =>
      intro w hSw
      go_simp; all_goals (with_reducible rfl)
    simp only [Act.put, List.setIfInBounds_toArray, List.set_cons_zero, List.set_cons_succ]
    refine wpAnyH_take (i := 20) (oi := { dst := some 81, op := Op.binOp BinOp.eql 25 (Operand.tmp 80) (Operand.const (Value.int IntKind.i64 0)) 25, type := 4, pos := "law.go:31", after := #[{ on := 19, ground := Ground.data }, { on := 18, ground := Ground.guard }], guard := some (18, true) }) (v := ?vc17) rfl (by kernel_rfl) (by kernel_rfl) (by kernel_rfl) (fun _ _ _ h => h) (Or.inl ⟨by rfl, ?yc17⟩) g5 ?_
    case yc17 =>
      intro w hSw
      go_simp; all_goals (with_reducible rfl)
    simp only [Act.put, List.setIfInBounds_toArray, List.set_cons_zero, List.set_cons_succ]
    refine wpAnyH_take (i := 21) (oi := { dst := some 82, op := Op.pick (Operand.tmp 79) (Operand.tmp 81) (Operand.const (Value.bool false)), type := 4, pos := "law.go:31", after := #[{ on := 18, ground := Ground.data }, { on := 20, ground := Ground.data }], guard := none }) (v := ?vc18) rfl (by kernel_rfl) (by kernel_rfl) (by kernel_rfl) (fun _ _ _ h => h) (Or.inl ⟨by rfl, ?yc18⟩) g5 ?_
    case yc18 =>
      intro w hSw
      go_simp; all_goals (with_reducible rfl)
    simp only [Act.put, List.setIfInBounds_toArray, List.set_cons_zero, List.set_cons_succ]
    refine wpAnyH_take (i := 22) (oi := { dst := some 83, op := Op.move (Operand.tmp 82), type := 4, pos := "law.go:31", after := #[{ on := 21, ground := Ground.data }, { on := 18, ground := Ground.chain }], guard := none }) (v := ?vc19) rfl (by kernel_rfl) (by kernel_rfl) (by kernel_rfl) (fun _ _ _ h => h) (Or.inl ⟨by rfl, ?yc19⟩) g5 ?_
    case yc19 =>
      intro w hSw
      go_simp; all_goals (with_reducible rfl)
    simp only [Act.put, List.setIfInBounds_toArray, List.set_cons_zero, List.set_cons_succ]
    refine wpAnyH_take (i := 23) (oi := { dst := some 84, op := Op.move (Operand.tmp 11), type := 25, pos := "law.go:31", after := #[{ on := 22, ground := Ground.guard }], guard := some (22, true) }) (v := ?vc20) rfl (by kernel_rfl) (by kernel_rfl) (by kernel_rfl) (fun _ _ _ h => h) (Or.inl ⟨by rfl, ?yc20⟩) g5 ?_
    case yc20 =>
      intro w hSw
      go_simp; all_goals (with_reducible rfl)
    simp only [Act.put, List.setIfInBounds_toArray, List.set_cons_zero, List.set_cons_succ]
    refine wpAnyH_take (i := 24) (oi := { dst := some 85, op := Op.binOp BinOp.eql 25 (Operand.tmp 84) (Operand.const (Value.int IntKind.i64 0)) 25, type := 4, pos := "law.go:31", after := #[{ on := 23, ground := Ground.data }, { on := 22, ground := Ground.guard }], guard := some (22, true) }) (v := ?vc21) rfl (by kernel_rfl) (by kernel_rfl) (by kernel_rfl) (fun _ _ _ h => h) (Or.inl ⟨by rfl, ?yc21⟩) g5 ?_
    case yc21 =>
      intro w hSw
      go_simp; all_goals (with_reducible rfl)
    simp only [Act.put, List.setIfInBounds_toArray, List.set_cons_zero, List.set_cons_succ]
    refine wpAnyH_take (i := 25) (oi := { dst := some 86, op := Op.pick (Operand.tmp 83) (Operand.tmp 85) (Operand.const (Value.bool false)), type := 4, pos := "law.go:31", after := #[{ on := 22, ground := Ground.data }, { on := 24, ground := Ground.data }], guard := none }) (v := ?vc22) rfl (by kernel_rfl) (by kernel_rfl) (by kernel_rfl) (fun _ _ _ h => h) (Or.inl ⟨by rfl, ?yc22⟩) g5 ?_
    case yc22 =>
      intro w hSw
      go_simp; all_goals (with_reducible rfl)
    simp only [Act.put, List.setIfInBounds_toArray, List.set_cons_zero, List.set_cons_succ]
    refine wpAnyH_take (i := 26) (oi := { dst := some 87, op := Op.move (Operand.tmp 86), type := 4, pos := "law.go:31", after := #[{ on := 25, ground := Ground.data }, { on := 22, ground := Ground.chain }], guard := none }) (v := ?vc23) rfl (by kernel_rfl) (by kernel_rfl) (by kernel_rfl) (fun _ _ _ h => h) (Or.inl ⟨by rfl, ?yc23⟩) g5 ?_
    case yc23 =>
      intro w hSw
      go_simp; all_goals (with_reducible rfl)
    simp only [Act.put, List.setIfInBounds_toArray, List.set_cons_zero, List.set_cons_succ]
    refine wpAnyH_ready (rs := [27]) (by kernel_rfl) (by simp) ?_
    refine (AllReadyH.cons (o := { dst := some 88, op := Op.call { callee := Callee.value (Operand.func 5), args := #[], argTypes := #[] }, type := 4, pos := "law.go:31", after := #[{ on := 26, ground := Ground.chain }, { on := 26, ground := Ground.guard }], guard := some (26, true) }) rfl (fun K hK => ?_) AllReadyH.nil)
    go_simp
    refine (knows_any _).mono ?_
    rintro e w6 ⟨rfl, hb6⟩
    have g6 := g5.trans (hb6.mono g5.size)
    have g06 := g3.trans (g6.mono g3.size)
    go_wp2_with fail
    refine hK.out _ _ g6 (fun _ => ?_)
    clear hK K
    refine wpAnyH_take (i := 28) (oi := { dst := some 89, op := Op.pick (Operand.tmp 87) (Operand.tmp 88) (Operand.const (Value.bool false)), type := 4, pos := "law.go:31", after := #[{ on := 26, ground := Ground.data }, { on := 27, ground := Ground.data }], guard := none }) (v := ?vc24) rfl (by kernel_rfl) (by kernel_rfl) (by kernel_rfl) (fun _ _ _ h => h) (Or.inl ⟨by rfl, ?yc24⟩) g6 ?_
    case yc24 =>
      intro w hSw
      go_simp; all_goals (with_reducible rfl)
    simp only [Act.put, List.setIfInBounds_toArray, List.set_cons_zero, List.set_cons_succ]
    refine wpAnyH_take (i := 29) (oi := { dst := some 6, op := Op.assign (Operand.tmp 89), type := 4, pos := "law.go:31", after := #[{ on := 28, ground := Ground.data }, { on := 27, ground := Ground.chain }, { on := 0, ground := Ground.phase }, { on := 1, ground := Ground.phase }, { on := 2, ground := Ground.phase }, { on := 3, ground := Ground.phase }, { on := 4, ground := Ground.phase }, { on := 5, ground := Ground.phase }, { on := 6, ground := Ground.phase }, { on := 7, ground := Ground.phase }, { on := 8, ground := Ground.phase }, { on := 9, ground := Ground.phase }, { on := 10, ground := Ground.phase }, { on := 11, ground := Ground.phase }, { on := 12, ground := Ground.phase }, { on := 13, ground := Ground.phase }, { on := 14, ground := Ground.phase }, { on := 15, ground := Ground.phase }, { on := 16, ground := Ground.phase }, { on := 17, ground := Ground.phase }, { on := 18, ground := Ground.phase }, { on := 19, ground := Ground.phase }, { on := 20, ground := Ground.phase }, { on := 21, ground := Ground.phase }, { on := 22, ground := Ground.phase }, { on := 23, ground := Ground.phase }, { on := 24, ground := Ground.phase }, { on := 25, ground := Ground.phase }, { on := 26, ground := Ground.phase }, { on := 27, ground := Ground.phase }, { on := 28, ground := Ground.phase }], guard := none }) (v := ?vc25) rfl (by kernel_rfl) (by kernel_rfl) (by kernel_rfl) (fun _ _ _ h => h) (Or.inl ⟨by rfl, ?yc25⟩) g6 ?_
    case yc25 =>
      intro w hSw
      go_simp; all_goals (with_reducible rfl)
    simp only [Act.put, List.setIfInBounds_toArray, List.set_cons_zero, List.set_cons_succ]
    refine wpAnyH_done (by kernel_rfl) ?_ _
    go_wp2_with fail
    go_ret
    exact ⟨rfl, g06⟩
  · have hmf : mayB id start = false := by simpa using hmay
    have hno : ¬ isId id ∨ start % 4 ≠ 0 := by
      by_cases h : isId id
      · right; intro h2; exact hmay ((mayB_iff id start).2 ⟨h, h2⟩)
      · exact .inl h
    have HM := Lib.hid (may_any id start)
    rw [hmf] at HM
    have HE := Lib.hid (fun (A1 : Option Addr) (c1 : Nat) (w' : World) => encode_no id start A1 l.length c1 w' hno)
    have HD := Lib.hid (fun (A1 : Option Addr) (c1 : Nat) (w' : World) => decode_no id start A1 l.length c1 w' hno)
    clear hmay hmf hno
    go_enter Try.func3, Try.ntmps3
    go_wp2_with (at_builtin; refine wpList_append_bytes rfl (.tmp 16) (.tmp 17) rfl w.heap.size _ _ [] rfl ho A l c rfl (hB.below hb0) hlen hs0 ?_; intro v1 w1 ho1 hg1; have hb1 : Below w.heap.size w w1 := below_grown hb0 hg1 hs0 (fun g hg => (ho.from_base g hg).1))
    rw [List.nil_append] at ho1
    obtain ⟨A1, c1, rfl, hc1, hm1, hB1⟩ := ho1.read
    clear ho hb0 hs0 hlen hg1 ho1
    refine (HE.out A1 c1 _).mono ?_
    rintro e w2 ⟨rfl, hb2⟩
    have g2 := hb1.trans (hb2.mono hb1.size)
    go_wp2_with fail
    refine (HD.out A1 c1 _).mono ?_
    rintro e w3 ⟨rfl, hb3⟩
    have g3 := g2.trans (hb3.mono g2.size)
    have q3 := hb2.trans (hb3.mono hb2.size)
    have k1 := run_str (hB1.below q3) c1
    have k2 := run_str (hB.below g3) c
    clear hb1 hb2 hb3 g2 q3 hB1
    go_wp2_with fail
    refine (HM.out w3).mono ?_
    rintro e w' ⟨rfl, rfl⟩
    go_wp2_with fail
    refine (knows_any _).mono ?_
    rintro e w4 ⟨rfl, hb4⟩
    go_wp2_with fail
    go_ret
    exact ⟨rfl, g3.trans (hb4.mono g3.size)⟩

set_option maxRecDepth 100000 in
set_option maxHeartbeats 2000000 in
theorem back_law (id : Int) (start : Nat) (A : Option Addr) (l : List UInt8) (c : Nat) (w : World) (_lo : -9223372036854775808 ≤ id) (_hi : id ≤ 9223372036854775807) (hst : start < 4294967296) (hB : Bytes w A l) (hc : l.length ≤ c) (_hm : c ≤ 9223372036854775807) :
    Calls Try.prog 4 #[.int .i64 id, .int .u32 (start : Nat), .slice A l.length c] w (Holds w) := by
  by_cases h1 : 600 < l.length
  · have h1' : (600 : Int) < l.length := by omega
    go_enter Try.func4, Try.ntmps4
    go_wp2_with fail
    refine (knows_any _).mono ?_
    rintro e w' ⟨rfl, hb⟩
    go_wp2_with fail
    go_ret
    exact ⟨rfl, hb⟩
  have h1' : (l.length : Int) ≤ 600 := by omega
  have h1b : decide ((600 : Int) < (l.length : Int)) = false := by simp; omega
  by_cases hmay : mayB id start = true
  · obtain ⟨hid, hs4⟩ := (mayB_iff id start).1 hmay
    have HM := Lib.hid (may_any id start)
    rw [hmay] at HM
    have HE := Lib.hid (fun (A1 : Option Addr) (l1 : List UInt8) (c1 : Nat) (w' : World) (h : Bytes w' A1 l1) (hl : l1.length ≤ 600) => encode_any id hid start hst hs4 A1 l1 c1 w' h (by omega))
    have HD := Lib.hid (fun (A1 : Option Addr) (l1 : List UInt8) (c1 : Nat) (w' : World) (h : Bytes w' A1 l1) (hl : l1.length ≤ 600) => decode_any id hid start hst hs4 A1 l1 c1 w' h (by omega))
    have hxb := back_on id false start l
    have hyb := back_on id true start l
    have hxl := coded_length (lowOf id) (cvOf id false) start l
    have hyl := coded_length (lowOf id) (cvOf id true) start l
    have hxt := coded_tail (lowOf id) (cvOf id false) start l
    rw [Bool.not_false] at hxb
    rw [Bool.not_true] at hyb
    have HE1 := Lib.hid (HE.out A l c)
    have HD1 := Lib.hid (HD.out A l c)
    generalize hX : coded (lowOf id) (cvOf id false) start l = lx at *
    generalize hY : coded (lowOf id) (cvOf id true) start l = ly at *
    have HXB := Lib.hid hxb
    have HYB := Lib.hid hyb
    have HXL := Lib.hid hxl
    have HYL := Lib.hid hyl
    have HXT := Lib.hid hxt
    clear hX hY hmay hid hs4 hxb hyb hxl hyl hxt
    have hll : l.length ≤ 600 := by omega
    go_enter Try.func4, Try.ntmps4
    go_wp2_with fail
    refine (HM.out _).mono ?_
    rintro e w' ⟨rfl, rfl⟩
    go_wp2_with fail
    refine (HE1.out _ hB hll).mono ?_
    rintro e w1 ⟨vx, rfl, hox, hb1⟩
    go_wp2_with fail
    refine (HD1.out _ (hB.below hb1) hll).mono ?_
    rintro e w2 ⟨vy, rfl, hoy, hb2⟩
    have g2 := hb1.trans (hb2.mono hb1.size)
    have hox2 := hox.below hb2
    obtain ⟨Ax, cx, rfl, hcx, hmx, hBx⟩ := hox2.read
    obtain ⟨Ay, cy, rfl, hcy, hmy, hBy⟩ := hoy.read
    clear hox hoy hox2 hb1 hb2
    have hxl6 : lx.length ≤ 600 := by rw [HXL.out]; exact hll
    have hyl6 : ly.length ≤ 600 := by rw [HYL.out]; exact hll
    go_wp2_with fail
    refine (HD.out Ax lx cx _ hBx hxl6).mono ?_
    rintro e w3 ⟨vu, rfl, hou, hb3⟩
    rw [HXB.out] at hou
    have g3 := g2.trans (hb3.mono g2.size)
    go_wp2_with fail
    refine (HE.out Ay ly cy _ (hBy.below hb3) hyl6).mono ?_
    rintro e w7 ⟨vv, rfl, hov, hb7⟩
    rw [HYB.out] at hov
    have g7 := g3.trans (hb7.mono g3.size)
    have hou7 := hou.below hb7
    obtain ⟨Au, cu, rfl, _, _, hBu⟩ := hou7.read
    obtain ⟨Av, cv, rfl, _, _, hBv⟩ := hov.read
    have hBx7 := hBx.below (hb3.trans (hb7.mono hb3.size))
    have hB7 := hB.below g7
    clear hou hov hou7 hb3 hb7 g2 g3 hBx hBy HE HD HE1 HD1 hmy hcy
    have hdv : (l.length : Int) - (l.length : Int) % 4 = ((4 * (l.length / 4) : Nat) : Int) := by omega
    have hkl : 4 * (l.length / 4) ≤ l.length := by omega
    have hBt := hB7.cutFrom hkl hc
    have hBxt := hBx7.cutFrom (k := 4 * (l.length / 4)) (by rw [HXL.out]; exact hkl) hcx
    have hxd := HXT.out
    have hdl : (l.drop (4 * (l.length / 4))).length = l.length - 4 * (l.length / 4) := List.length_drop ..
    rw [hxd] at hBxt
    clear hxd
    have hxll := HXL.out
    generalize 4 * (l.length / 4) = K at *
    generalize lx.length = X at *
    subst hxll
    generalize l.drop K = D at *
    go_wp2_with fail
    have hdr : Below w7.heap.size w7 w7.drew := (Below.refl _ _).drew
    have HDL := Lib.hid hdl
    clear hdl
    refine wp_region_held_drew (S := fun w' => Below w7.heap.size w7 w') (by kernel_rfl) hdr (fun hS => ?_)
    refine wpAnyH_take (i := 0) (oi := { dst := some 73, op := Op.move (Operand.tmp 11), type := 23, pos := "law.go:47", after := #[], guard := none }) (v := ?vd26) rfl (by kernel_rfl) (by kernel_rfl) (by kernel_rfl) (fun _ _ _ h => h) (Or.inl ⟨by rfl, ?yd26⟩) hS ?_
    case yd26 =>
      intro w hSw
      go_simp; all_goals (with_reducible rfl)
    simp only [Act.put, List.setIfInBounds_toArray, List.set_cons_zero, List.set_cons_succ]
    refine wpAnyH_take (i := 1) (oi := { dst := some 74, op := Op.convert 23 9 (Operand.tmp 73), type := 9, pos := "law.go:47", after := #[{ on := 0, ground := Ground.data }], guard := none }) (v := ?vd27) rfl (by kernel_rfl) (by kernel_rfl) (by kernel_rfl) (fun _ _ _ h => h) (Or.inl ⟨by rfl, ?yd27⟩) hS ?_
    case yd27 =>
      intro w hSw
      have k := run_str (hBu.below hSw) cu
      go_simp; all_goals (with_reducible rfl)
    simp only [Act.put, List.setIfInBounds_toArray, List.set_cons_zero, List.set_cons_succ]
    refine wpAnyH_take (i := 2) (oi := { dst := some 75, op := Op.move (Operand.tmp 2), type := 23, pos := "law.go:47", after := #[], guard := none }) (v := ?vd28) rfl (by kernel_rfl) (by kernel_rfl) (by kernel_rfl) (fun _ _ _ h => h) (Or.inl ⟨by rfl, ?yd28⟩) hS ?_
    case yd28 =>
      intro w hSw
      go_simp; all_goals (with_reducible rfl)
    simp only [Act.put, List.setIfInBounds_toArray, List.set_cons_zero, List.set_cons_succ]
    refine wpAnyH_take (i := 3) (oi := { dst := some 76, op := Op.convert 23 9 (Operand.tmp 75), type := 9, pos := "law.go:47", after := #[{ on := 2, ground := Ground.data }], guard := none }) (v := ?vd29) rfl (by kernel_rfl) (by kernel_rfl) (by kernel_rfl) (fun _ _ _ h => h) (Or.inl ⟨by rfl, ?yd29⟩) hS ?_
    case yd29 =>
      intro w hSw
      have k := run_str (hB7.below hSw) c
      go_simp; all_goals (with_reducible rfl)
    simp only [Act.put, List.setIfInBounds_toArray, List.set_cons_zero, List.set_cons_succ]
    refine wpAnyH_take (i := 4) (oi := { dst := some 77, op := Op.binOp BinOp.eql 9 (Operand.tmp 74) (Operand.tmp 76) 9, type := 4, pos := "law.go:47", after := #[{ on := 1, ground := Ground.data }, { on := 3, ground := Ground.data }], guard := none }) (v := ?vd30) rfl (by kernel_rfl) (by kernel_rfl) (by kernel_rfl) (fun _ _ _ h => h) (Or.inl ⟨by rfl, ?yd30⟩) hS ?_
    case yd30 =>
      intro w hSw
      go_simp; all_goals (with_reducible rfl)
    simp only [Act.put, List.setIfInBounds_toArray, List.set_cons_zero, List.set_cons_succ]
    refine wpAnyH_take (i := 5) (oi := { dst := some 78, op := Op.move (Operand.tmp 77), type := 4, pos := "law.go:47", after := #[{ on := 4, ground := Ground.data }], guard := none }) (v := ?vd31) rfl (by kernel_rfl) (by kernel_rfl) (by kernel_rfl) (fun _ _ _ h => h) (Or.inl ⟨by rfl, ?yd31⟩) hS ?_
    case yd31 =>
      intro w hSw
      go_simp; all_goals (with_reducible rfl)
    simp only [Act.put, List.setIfInBounds_toArray, List.set_cons_zero, List.set_cons_succ]
    refine wpAnyH_take (i := 6) (oi := { dst := some 79, op := Op.move (Operand.tmp 13), type := 23, pos := "law.go:47", after := #[{ on := 5, ground := Ground.guard }], guard := some (5, true) }) (v := ?vd32) rfl (by kernel_rfl) (by kernel_rfl) (by kernel_rfl) (fun _ _ _ h => h) (Or.inl ⟨by rfl, ?yd32⟩) hS ?_
    case yd32 =>
      intro w hSw
      go_simp; all_goals (with_reducible rfl)
    simp only [Act.put, List.setIfInBounds_toArray, List.set_cons_zero, List.set_cons_succ]
    refine wpAnyH_take (i := 7) (oi := { dst := some 80, op := Op.convert 23 9 (Operand.tmp 79), type := 9, pos := "law.go:47", after := #[{ on := 6, ground := Ground.data }, { on := 5, ground := Ground.guard }], guard := some (5, true) }) (v := ?vd33) rfl (by kernel_rfl) (by kernel_rfl) (by kernel_rfl) (fun _ _ _ h => h) (Or.inl ⟨by rfl, ?yd33⟩) hS ?_
    case yd33 =>
      intro w hSw
      have k := run_str (hBv.below hSw) cv
      go_simp; all_goals (with_reducible rfl)
    simp only [Act.put, List.setIfInBounds_toArray, List.set_cons_zero, List.set_cons_succ]
    refine wpAnyH_take (i := 8) (oi := { dst := some 81, op := Op.move (Operand.tmp 2), type := 23, pos := "law.go:47", after := #[{ on := 5, ground := Ground.guard }], guard := some (5, true) }) (v := ?vd34) rfl (by kernel_rfl) (by kernel_rfl) (by kernel_rfl) (fun _ _ _ h => h) (Or.inl ⟨by rfl, ?yd34⟩) hS ?_
    case yd34 =>
      intro w hSw
      go_simp; all_goals (with_reducible rfl)
    simp only [Act.put, List.setIfInBounds_toArray, List.set_cons_zero, List.set_cons_succ]
    refine wpAnyH_take (i := 9) (oi := { dst := some 82, op := Op.convert 23 9 (Operand.tmp 81), type := 9, pos := "law.go:47", after := #[{ on := 8, ground := Ground.data }, { on := 5, ground := Ground.guard }], guard := some (5, true) }) (v := ?vd35) rfl (by kernel_rfl) (by kernel_rfl) (by kernel_rfl) (fun _ _ _ h => h) (Or.inl ⟨by rfl, ?yd35⟩) hS ?_
    case yd35 =>
      intro w hSw
      have k := run_str (hB7.below hSw) c
      go_simp; all_goals (with_reducible rfl)
    simp only [Act.put, List.setIfInBounds_toArray, List.set_cons_zero, List.set_cons_succ]
    refine wpAnyH_take (i := 10) (oi := { dst := some 83, op := Op.binOp BinOp.eql 9 (Operand.tmp 80) (Operand.tmp 82) 9, type := 4, pos := "law.go:47", after := #[{ on := 7, ground := Ground.data }, { on := 9, ground := Ground.data }, { on := 5, ground := Ground.guard }], guard := some (5, true) }) (v := ?vd36) rfl (by kernel_rfl) (by kernel_rfl) (by kernel_rfl) (fun _ _ _ h => h) (Or.inl ⟨by rfl, ?yd36⟩) hS ?_
    case yd36 =>
      intro w hSw
      go_simp; all_goals (with_reducible rfl)
    simp only [Act.put, List.setIfInBounds_toArray, List.set_cons_zero, List.set_cons_succ]
    refine wpAnyH_take (i := 11) (oi := { dst := some 84, op := Op.pick (Operand.tmp 78) (Operand.tmp 83) (Operand.const (Value.bool false)), type := 4, pos := "law.go:47", after := #[{ on := 5, ground := Ground.data }, { on := 10, ground := Ground.data }], guard := none }) (v := ?vd37) rfl (by kernel_rfl) (by kernel_rfl) (by kernel_rfl) (fun _ _ _ h => h) (Or.inl ⟨by rfl, ?yd37⟩) hS ?_
    case yd37 =>
      intro w hSw
      go_simp; all_goals (with_reducible rfl)
    simp only [Act.put, List.setIfInBounds_toArray, List.set_cons_zero, List.set_cons_succ]
    refine wpAnyH_take (i := 12) (oi := { dst := some 85, op := Op.move (Operand.tmp 84), type := 4, pos := "law.go:47", after := #[{ on := 11, ground := Ground.data }, { on := 5, ground := Ground.chain }], guard := none }) (v := ?vd38) rfl (by kernel_rfl) (by kernel_rfl) (by kernel_rfl) (fun _ _ _ h => h) (Or.inl ⟨by rfl, ?yd38⟩) hS ?_
    case yd38 =>
      intro w hSw
      go_simp; all_goals (with_reducible rfl)
    simp only [Act.put, List.setIfInBounds_toArray, List.set_cons_zero, List.set_cons_succ]
    refine wpAnyH_take (i := 13) (oi := { dst := some 86, op := Op.move (Operand.tmp 7), type := 23, pos := "law.go:47", after := #[{ on := 12, ground := Ground.guard }], guard := some (12, true) }) (v := ?vd39) rfl (by kernel_rfl) (by kernel_rfl) (by kernel_rfl) (fun _ _ _ h => h) (Or.inl ⟨by rfl, ?yd39⟩) hS ?_
    case yd39 =>
      intro w hSw
      go_simp; all_goals (with_reducible rfl)
    simp only [Act.put, List.setIfInBounds_toArray, List.set_cons_zero, List.set_cons_succ]
    refine wpAnyH_take (i := 14) (oi := { dst := some 87, op := Op.move (Operand.tmp 15), type := 3, pos := "law.go:47", after := #[{ on := 12, ground := Ground.guard }], guard := some (12, true) }) (v := ?vd40) rfl (by kernel_rfl) (by kernel_rfl) (by kernel_rfl) (fun _ _ _ h => h) (Or.inl ⟨by rfl, ?yd40⟩) hS ?_
    case yd40 =>
      intro w hSw
      go_simp; all_goals (with_reducible rfl)
    simp only [Act.put, List.setIfInBounds_toArray, List.set_cons_zero, List.set_cons_succ]
    refine wpAnyH_take (i := 15) (oi := { dst := some 88, op := Op.slice 23 (Operand.tmp 86) (some (Operand.tmp 87)) none none, type := 23, pos := "law.go:47", after := #[{ on := 13, ground := Ground.data }, { on := 14, ground := Ground.data }, { on := 12, ground := Ground.guard }], guard := some (12, true) }) (v := ?vd41) rfl (by kernel_rfl) (by kernel_rfl) (by kernel_rfl) (fun _ _ _ h => h) (Or.inl ⟨by rfl, ?yd41⟩) hS ?_
    case yd41 =>
      intro w hSw
      go_simp; all_goals (with_reducible rfl)
    simp only [Act.put, List.setIfInBounds_toArray, List.set_cons_zero, List.set_cons_succ]
    refine wpAnyH_take (i := 16) (oi := { dst := some 89, op := Op.convert 23 9 (Operand.tmp 88), type := 9, pos := "law.go:47", after := #[{ on := 15, ground := Ground.data }, { on := 12, ground := Ground.guard }], guard := some (12, true) }) (v := ?vd42) rfl (by kernel_rfl) (by kernel_rfl) (by kernel_rfl) (fun _ _ _ h => h) (Or.inl ⟨by rfl, ?yd42⟩) hS ?_
    case yd42 =>
      intro w hSw
      have k := run_str (hBxt.below hSw) (cx - K)
      rw [HDL.out] at k
      go_simp; all_goals (with_reducible rfl)
    simp only [Act.put, List.setIfInBounds_toArray, List.set_cons_zero, List.set_cons_succ]
    refine wpAnyH_take (i := 17) (oi := { dst := some 90, op := Op.move (Operand.tmp 2), type := 23, pos := "law.go:47", after := #[{ on := 12, ground := Ground.guard }], guard := some (12, true) }) (v := ?vd43) rfl (by kernel_rfl) (by kernel_rfl) (by kernel_rfl) (fun _ _ _ h => h) (Or.inl ⟨by rfl, ?yd43⟩) hS ?_
    case yd43 =>
      intro w hSw
      go_simp; all_goals (with_reducible rfl)
    simp only [Act.put, List.setIfInBounds_toArray, List.set_cons_zero, List.set_cons_succ]
    refine wpAnyH_take (i := 18) (oi := { dst := some 91, op := Op.move (Operand.tmp 15), type := 3, pos := "law.go:47", after := #[{ on := 12, ground := Ground.guard }], guard := some (12, true) }) (v := ?vd44) rfl (by kernel_rfl) (by kernel_rfl) (by kernel_rfl) (fun _ _ _ h => h) (Or.inl ⟨by rfl, ?yd44⟩) hS ?_
    case yd44 =>
      intro w hSw
      go_simp; all_goals (with_reducible rfl)
    simp only [Act.put, List.setIfInBounds_toArray, List.set_cons_zero, List.set_cons_succ]
    refine wpAnyH_take (i := 19) (oi := { dst := some 92, op := Op.slice 23 (Operand.tmp 90) (some (Operand.tmp 91)) none none, type := 23, pos := "law.go:47", after := #[{ on := 17, ground := Ground.data }, { on := 18, ground := Ground.data }, { on := 12, ground := Ground.guard }], guard := some (12, true) }) (v := ?vd45) rfl (by kernel_rfl) (by kernel_rfl) (by kernel_rfl) (fun _ _ _ h => h) (Or.inl ⟨by rfl, ?yd45⟩) hS ?_
    case yd45 =>
      intro w hSw
      go_simp; all_goals (with_reducible rfl)
    simp only [Act.put, List.setIfInBounds_toArray, List.set_cons_zero, List.set_cons_succ]
    refine wpAnyH_take (i := 20) (oi := { dst := some 93, op := Op.convert 23 9 (Operand.tmp 92), type := 9, pos := "law.go:47", after := #[{ on := 19, ground := Ground.data }, { on := 12, ground := Ground.guard }], guard := some (12, true) }) (v := ?vd46) rfl (by kernel_rfl) (by kernel_rfl) (by kernel_rfl) (fun _ _ _ h => h) (Or.inl ⟨by rfl, ?yd46⟩) hS ?_
    case yd46 =>
      intro w hSw
      have k := run_str (hBt.below hSw) (c - K)
      rw [HDL.out] at k
      go_simp; all_goals (with_reducible rfl)
    simp only [Act.put, List.setIfInBounds_toArray, List.set_cons_zero, List.set_cons_succ]
    refine wpAnyH_take (i := 21) (oi := { dst := some 94, op := Op.binOp BinOp.eql 9 (Operand.tmp 89) (Operand.tmp 93) 9, type := 4, pos := "law.go:47", after := #[{ on := 16, ground := Ground.data }, { on := 20, ground := Ground.data }, { on := 12, ground := Ground.guard }], guard := some (12, true) }) (v := ?vd47) rfl (by kernel_rfl) (by kernel_rfl) (by kernel_rfl) (fun _ _ _ h => h) (Or.inl ⟨by rfl, ?yd47⟩) hS ?_
    case yd47 =>
      intro w hSw
      go_simp; all_goals (with_reducible rfl)
    simp only [Act.put, List.setIfInBounds_toArray, List.set_cons_zero, List.set_cons_succ]
    refine wpAnyH_take (i := 22) (oi := { dst := some 95, op := Op.pick (Operand.tmp 85) (Operand.tmp 94) (Operand.const (Value.bool false)), type := 4, pos := "law.go:47", after := #[{ on := 12, ground := Ground.data }, { on := 21, ground := Ground.data }], guard := none }) (v := ?vd48) rfl (by kernel_rfl) (by kernel_rfl) (by kernel_rfl) (fun _ _ _ h => h) (Or.inl ⟨by rfl, ?yd48⟩) hS ?_
    case yd48 =>
      intro w hSw
      go_simp; all_goals (with_reducible rfl)
    simp only [Act.put, List.setIfInBounds_toArray, List.set_cons_zero, List.set_cons_succ]
    refine wpAnyH_take (i := 23) (oi := { dst := some 96, op := Op.move (Operand.tmp 95), type := 4, pos := "law.go:47", after := #[{ on := 22, ground := Ground.data }, { on := 12, ground := Ground.chain }], guard := none }) (v := ?vd49) rfl (by kernel_rfl) (by kernel_rfl) (by kernel_rfl) (fun _ _ _ h => h) (Or.inl ⟨by rfl, ?yd49⟩) hS ?_
    case yd49 =>
      intro w hSw
      go_simp; all_goals (with_reducible rfl)
    simp only [Act.put, List.setIfInBounds_toArray, List.set_cons_zero, List.set_cons_succ]
    refine wpAnyH_ready (rs := [24]) (by kernel_rfl) (by simp) ?_
    refine (AllReadyH.cons (o := { dst := some 97, op := Op.call { callee := Callee.value (Operand.func 5), args := #[], argTypes := #[] }, type := 4, pos := "law.go:47", after := #[{ on := 23, ground := Ground.chain }, { on := 23, ground := Ground.guard }], guard := some (23, true) }) rfl (fun K hK => ?_) AllReadyH.nil)
    go_simp
    refine (knows_any _).mono ?_
    rintro e w8 ⟨rfl, hb8⟩
    have g8 := hdr.trans (hb8.mono hdr.size)
    have g08 := g7.trans (g8.mono g7.size)
    dsimp only
    refine hK.out _ _ g8 (fun _ => ?_)
    clear hK K
    refine wpAnyH_take (i := 25) (oi := { dst := some 98, op := Op.pick (Operand.tmp 96) (Operand.tmp 97) (Operand.const (Value.bool false)), type := 4, pos := "law.go:47", after := #[{ on := 23, ground := Ground.data }, { on := 24, ground := Ground.data }], guard := none }) (v := ?vd50) rfl (by kernel_rfl) (by kernel_rfl) (by kernel_rfl) (fun _ _ _ h => h) (Or.inl ⟨by rfl, ?yd50⟩) g8 ?_
    case yd50 =>
      intro w hSw
      go_simp; all_goals (with_reducible rfl)
    simp only [Act.put, List.setIfInBounds_toArray, List.set_cons_zero, List.set_cons_succ]
    refine wpAnyH_take (i := 26) (oi := { dst := some 6, op := Op.assign (Operand.tmp 98), type := 4, pos := "law.go:47", after := #[{ on := 25, ground := Ground.data }, { on := 24, ground := Ground.chain }, { on := 0, ground := Ground.phase }, { on := 1, ground := Ground.phase }, { on := 2, ground := Ground.phase }, { on := 3, ground := Ground.phase }, { on := 4, ground := Ground.phase }, { on := 5, ground := Ground.phase }, { on := 6, ground := Ground.phase }, { on := 7, ground := Ground.phase }, { on := 8, ground := Ground.phase }, { on := 9, ground := Ground.phase }, { on := 10, ground := Ground.phase }, { on := 11, ground := Ground.phase }, { on := 12, ground := Ground.phase }, { on := 13, ground := Ground.phase }, { on := 14, ground := Ground.phase }, { on := 15, ground := Ground.phase }, { on := 16, ground := Ground.phase }, { on := 17, ground := Ground.phase }, { on := 18, ground := Ground.phase }, { on := 19, ground := Ground.phase }, { on := 20, ground := Ground.phase }, { on := 21, ground := Ground.phase }, { on := 22, ground := Ground.phase }, { on := 23, ground := Ground.phase }, { on := 24, ground := Ground.phase }, { on := 25, ground := Ground.phase }], guard := none }) (v := ?vd51) rfl (by kernel_rfl) (by kernel_rfl) (by kernel_rfl) (fun _ _ _ h => h) (Or.inl ⟨by rfl, ?yd51⟩) g8 ?_
    case yd51 =>
      intro w hSw
      go_simp; all_goals (with_reducible rfl)
    simp only [Act.put, List.setIfInBounds_toArray, List.set_cons_zero, List.set_cons_succ]
    refine wpAnyH_done (by kernel_rfl) ?_ _
    go_wp2_with fail
    all_goals (go_ret; exact ⟨rfl, g08⟩)
  · have hmf : mayB id start = false := by simpa using hmay
    have HM := Lib.hid (may_any id start)
    rw [hmf] at HM
    clear hmay hmf
    go_enter Try.func4, Try.ntmps4
    go_wp2_with fail
    refine (HM.out _).mono ?_
    rintro e w' ⟨rfl, rfl⟩
    go_wp2_with fail
    refine (knows_any _).mono ?_
    rintro e w4 ⟨rfl, hb4⟩
    go_wp2_with fail
    go_ret
    exact ⟨rfl, hb4⟩
end Go.Proofs.Ytbhdggajeeldeaa
