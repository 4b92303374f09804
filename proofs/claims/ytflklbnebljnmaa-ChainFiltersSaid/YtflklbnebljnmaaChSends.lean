/- knows of layer 15, and the contract of ChainSends. -/
import Derived.Test.YtflklbnebljnmaaChRd0
import Derived.Deep.RegionHeld3
namespace Go.Proofs.Ytflklbnebljnmaa
open Go.RowKit

theorem bytes_34 : bytesL ⟨3, 4⟩ = some [3] := by decide
theorem code_ex : codeN 1048576 = 16 := by decide
theorem dict_ex : dictN 16 = 1048576 := by decide
set_option maxRecDepth 100000 in
set_option maxHeartbeats 400000 in
theorem knows_any (w : World) : Calls Try.prog 5 #[] w (Holds w) := by
  have HB := Lib.hid (cbytes_any ⟨3, 4⟩ ⟨by simp, by simp, by simp⟩)
  rw [bytes_34] at HB
  simp only [Fil.agg] at HB
  have HR := Lib.hid (cread_none 4 (by omega) (by omega) (by decide) none 0 0)
  have HC := Lib.hid (code_any 1048576 (by omega))
  rw [code_ex] at HC
  have HD := Lib.hid (dict_small 16 (by omega))
  rw [dict_ex] at HD
  go_enter Try.func5, Try.ntmps5
  go_wp2_with fail
  refine (HB.out _).mono ?_
  rintro e w1 ⟨v, rfl, ho, hb1⟩
  obtain ⟨A, c, rfl, hc, hm, hB1⟩ := ho.read
  clear ho
  go_wp2_with fail
  refine (HR.out _).mono ?_
  rintro e w2 ⟨rfl, hb2⟩
  have g2 := hb1.trans (hb2.mono hb1.size)
  have hb3 := below_box w2
  have hB2 := hB1.below hb2
  have hs : ∀ o, (convert 23 9 (.slice A 1 c)).run Try.prog (w2.alloc o) = .ok (.string ⟨#[3]⟩) (w2.alloc o) := fun o => run_str (hB2.below (hb3 o)) c
  clear hb1 hb2 hB1
  go_wp2_with fail
  refine (HC.out _).mono ?_
  rintro e w' ⟨rfl, rfl⟩
  go_wp2_with fail
  refine (HD.out _).mono ?_
  rintro e w' ⟨rfl, rfl⟩
  go_wp2_with fail
  go_ret
  exact ⟨rfl, g2.trans ((hb3 _).mono g2.size)⟩

theorem mayL_all (l : List Fil) (h : mayL l = true) : l.all fitB = true ∧ l.length ≤ 3 := by
  unfold mayL at h; rw [Bool.and_eq_true] at h; exact ⟨h.2, by simpa using h.1⟩

set_option maxRecDepth 100000 in
set_option maxHeartbeats 2000000 in
theorem sends_law (A0 : Option Addr) (l : List Fil) (c0 : Nat) (A : Option Addr) (b : List UInt8) (c : Nat) (w : World) (hF : Fils w A0 l) (hc0 : l.length ≤ c0) (hm0 : c0 ≤ 9223372036854775807) (hB : Bytes w A b) (hc : b.length ≤ c) (hm : c ≤ 9223372036854775807) :
    Calls Try.prog 3 #[.slice A0 l.length c0, .slice A b.length c] w (Holds w) := by
  by_cases h1 : 20 < l.length
  · have h1' : decide ((20 : Int) < (l.length : Int)) = true := by simp; omega
    clear hc0
    generalize l.length = n at *
    go_enter Try.func3, Try.ntmps3
    go_wp2_with fail
    refine (knows_any _).mono ?_
    rintro e w' ⟨rfl, hb⟩
    go_wp2_with fail
    go_ret
    exact ⟨rfl, hb⟩
  have h1' : decide ((20 : Int) < (l.length : Int)) = false := by simp; omega
  by_cases h2 : 600 < b.length
  · have h2' : decide ((600 : Int) < (b.length : Int)) = true := by simp; omega
    go_enter Try.func3, Try.ntmps3
    go_wp2_with fail
    refine (knows_any _).mono ?_
    rintro e w' ⟨rfl, hb⟩
    go_wp2_with fail
    go_ret
    exact ⟨rfl, hb⟩
  have h2' : decide ((600 : Int) < (b.length : Int)) = false := by simp; omega
  have hl20 : l.length ≤ 20 := by omega
  have hb600 : b.length ≤ 600 := by omega
  have ho : Own w.heap.size (w.alloc (.cells #[] 5)) (.slice (some ⟨w.heap.size, 0, none⟩) 0 0) [] := Own.lit w [] (Nat.le_refl _) (by simp)
  have hb0 : Below w.heap.size w (w.alloc (.cells #[] 5)) := (Below.refl _ _).alloc (Nat.le_refl _) _
  have hs0 : w.heap.size ≤ (w.alloc (.cells #[] 5)).heap.size := hb0.size
  have hlen : ([] : List UInt8).length + b.length ≤ 140737488355328 := by simp; omega
  have HM1 := Lib.hid (fun (w' : World) (h : Fils w' A0 l) => rmayL_any A0 l c0 w' h hl20)
  have HM2 := Lib.hid (fun (w' : World) (h : Fils w' A0 l) => mayL_any A0 l c0 w' h hl20)
  clear h1 h2
  cases hmay : mayL l with
  | true =>
    obtain ⟨hall, hl3⟩ := mayL_all l hmay
    rw [hmay] at HM1 HM2
    have HS := Lib.hid (fun (A : Option Addr) (c : Nat) (w' : World) (hF : Fils w' A0 l) (hB : Bytes w' A b) => chsend_any A0 l c0 w' hF hl20 hall hmay A b c hB (by omega))
    have HK := Lib.hid (fun (A : Option Addr) (b : List UInt8) (c : Nat) (w' : World) (hF : Fils w' A0 l) (hB : Bytes w' A b) (hb : b.length ≤ 600) => chback_any A0 l c0 w' hF hl20 hall hmay A b c hB (by omega))
    have HRS := Lib.hid (fun (A0 : Option Addr) (c0 : Nat) (A : Option Addr) (c : Nat) (w' : World) (hF : Fils w' A0 l) (hB : Bytes w' A b) (hc : b.length ≤ c) (hm : c ≤ 9223372036854775807) (h0 : l.length ≤ c0) (hm0 : c0 ≤ 9223372036854775807) => rsend_any l hl20 hall A0 c0 A b c w' hF hB hc hm (by omega) h0 hm0)
    have HRB := Lib.hid (fun (A0 : Option Addr) (c0 : Nat) (A : Option Addr) (c : Nat) (w' : World) (hF : Fils w' A0 l) (hB : Bytes w' A b) (hc : b.length ≤ c) (hm : c ≤ 9223372036854775807) (h0 : l.length ≤ c0) (hm0 : c0 ≤ 9223372036854775807) => rback_any l hl20 hall A0 c0 A b c w' hF hB hc hm (by omega) h0 hm0)
    have HBS := Lib.hid (backL_sendL l b hall)
    have hxl := sendL_length l b
    have HK1 := Lib.hid (fun A c => HK.out A b c)
    generalize sendL l b = X at *
    generalize backL l b = Y at *
    have hx6 : X.length ≤ 600 := by omega
    clear hmay hall hl3 hxl
    go_enter Try.func3, Try.ntmps3
    go_wp2_with (at_builtin; refine wpList_append_bytes rfl (.tmp 22) (.tmp 23) rfl w.heap.size _ _ [] rfl ho A b c rfl (hB.below hb0) hlen hs0 ?_; intro v1 w1 ho1 hg1; have hb1 : Below w.heap.size w w1 := below_grown hb0 hg1 hs0 (fun g hg => (ho.from_base g hg).1))
    rw [List.nil_append] at ho1
    obtain ⟨A1, c1, rfl, hc1, hm1, hB1⟩ := ho1.read
    clear ho hb0 hs0 hlen hg1 ho1
    refine (HS.out A1 c1 _ (hF.below hb1) hB1).mono ?_
    rintro e w2 ⟨vx, rfl, hox, hb2⟩
    have g2 := hb1.trans (hb2.mono hb1.size)
    go_wp2_with fail
    refine (HK1.out A1 c1 _ (hF.below g2) (hB1.below hb2) hb600).mono ?_
    rintro e w3 ⟨vy, rfl, hoy, hb3⟩
    have g3 := g2.trans (hb3.mono g2.size)
    go_wp2_with fail
    refine (HM1.out _ (hF.below g3)).mono ?_
    rintro e w3a ⟨rfl, hb3a⟩
    have g3a := g3.trans (hb3a.mono g3.size)
    go_wp2_with fail
    refine (HM2.out _ (hF.below g3a)).mono ?_
    rintro e w3b ⟨rfl, hb3b⟩
    have g3b := g3a.trans (hb3b.mono g3a.size)
    have q3 := hb3a.trans (hb3b.mono hb3a.size)
    have p3 := hb3.trans (q3.mono hb3.size)
    have p2 := hb2.trans (p3.mono hb2.size)
    have hox3 := hox.below p3
    have hoy3 := hoy.below q3
    obtain ⟨Ax, cx, rfl, hcx, hmx, hBx3⟩ := hox3.read
    obtain ⟨Ay, cy, rfl, hcy, hmy, hBy3⟩ := hoy3.read
    have k1 := run_str (hB1.below p2) c1
    have k2 := run_str (hB.below g3b) c
    clear hox hoy hox3 hoy3 hb1 hb2 hb3 hb3a hb3b g2 g3 g3a q3 p3 p2 hB1 HM1 HM2 HS HK1
    go_wp2_with fail
    refine (HK.out Ax X cx _ (hF.below g3b) hBx3 hx6).mono ?_
    rintro e w4 ⟨vz, rfl, hoz, hb4⟩
    rw [HBS.out] at hoz
    obtain ⟨Az, cz, rfl, hcz, hmz, hBz⟩ := hoz.read
    have g4 := g3b.trans (hb4.mono g3b.size)
    have hBx := hBx3.below hb4
    have hBy := hBy3.below hb4
    clear k1 k2 hoz hb4 g3b hBx3 hBy3 HK HBS
    go_wp2_with fail
    have hdr := drew_only w4
    refine wp_region_held_drew (S := fun w' => Below w4.heap.size w4 w') (by kernel_rfl) hdr (fun hS => ?_)
    refine wpAnyH_take (i := 0) (oi := { dst := some 77, op := Op.move (Operand.tmp 6), type := 23, pos := "law.go:33", after := #[], guard := none }) (v := ?vg1) rfl (by kernel_rfl) (by kernel_rfl) (by kernel_rfl) (fun _ _ _ h => h) (Or.inl ⟨by rfl, ?yg1⟩) hS ?_
    case yg1 =>
      intro w hSw
      go_simp; all_goals (with_reducible rfl)
    simp only [Act.put, List.setIfInBounds_toArray, List.set_cons_zero, List.set_cons_succ]
    refine wpAnyH_take (i := 1) (oi := { dst := some 78, op := Op.convert 23 9 (Operand.tmp 77), type := 9, pos := "law.go:33", after := #[{ on := 0, ground := Ground.data }], guard := none }) (v := ?vg2) rfl (by kernel_rfl) (by kernel_rfl) (by kernel_rfl) (fun _ _ _ h => h) (Or.inl ⟨by rfl, ?yg2⟩) hS ?_
    case yg2 =>
      intro w hSw
      have k := run_str (hBx.below hSw) cx
      go_simp; all_goals (with_reducible rfl)
    simp only [Act.put, List.setIfInBounds_toArray, List.set_cons_zero, List.set_cons_succ]
    refine wpAnyH_take (i := 2) (oi := { dst := some 79, op := Op.move (Operand.tmp 0), type := 22, pos := "law.go:33", after := #[], guard := none }) (v := ?vg3) rfl (by kernel_rfl) (by kernel_rfl) (by kernel_rfl) (fun _ _ _ h => h) (Or.inl ⟨by rfl, ?yg3⟩) hS ?_
    case yg3 =>
      intro w hSw
      go_simp; all_goals (with_reducible rfl)
    simp only [Act.put, List.setIfInBounds_toArray, List.set_cons_zero, List.set_cons_succ]
    refine wpAnyH_take (i := 3) (oi := { dst := some 80, op := Op.move (Operand.tmp 1), type := 23, pos := "law.go:33", after := #[], guard := none }) (v := ?vg4) rfl (by kernel_rfl) (by kernel_rfl) (by kernel_rfl) (fun _ _ _ h => h) (Or.inl ⟨by rfl, ?yg4⟩) hS ?_
    case yg4 =>
      intro w hSw
      go_simp; all_goals (with_reducible rfl)
    simp only [Act.put, List.setIfInBounds_toArray, List.set_cons_zero, List.set_cons_succ]
    refine wpAnyH_ready (rs := [4]) (by kernel_rfl) (by simp) ?_
    refine (AllReadyH.cons (o := { dst := some 81, op := Op.call { callee := Callee.value (Operand.func 10), args := #[Operand.tmp 79, Operand.tmp 80], argTypes := #[22, 23] }, type := 23, pos := "law.go:33", after := #[{ on := 2, ground := Ground.data }, { on := 3, ground := Ground.data }], guard := none }) rfl (fun K hK => ?_) AllReadyH.nil)
    go_simp
    refine (HRS.out A0 c0 A c _ (hF.below (g4.trans (hdr.mono g4.size))) (hB.below (g4.trans (hdr.mono g4.size))) hc hm hc0 hm0).mono ?_
    rintro e w5 ⟨Ar, cr, rfl, _, _, hBr, hb5⟩
    have kr := run_str hBr cr
    have h5 := hdr.trans (hb5.mono hdr.size)
    have g5 := g4.trans (h5.mono g4.size)
    clear hb5
    go_wp2_with fail
    refine hK.out _ _ h5 (fun _ => ?_)
    clear hK K
    refine wpAnyH_ready (rs := [5]) (by kernel_rfl) (by simp) ?_
    refine (AllReadyH.cons (o := { dst := some 82, op := Op.convert 23 9 (Operand.tmp 81), type := 9, pos := "law.go:33", after := #[{ on := 4, ground := Ground.data }], guard := none }) rfl (fun K hK => ?_) AllReadyH.nil)
    go_simp
    refine hK.out _ _ h5 (fun _ => ?_)
    clear hK K
    refine wpAnyH_take (i := 6) (oi := { dst := some 83, op := Op.binOp BinOp.eql 9 (Operand.tmp 78) (Operand.tmp 82) 9, type := 4, pos := "law.go:33", after := #[{ on := 1, ground := Ground.data }, { on := 5, ground := Ground.data }], guard := none }) (v := ?vg5) rfl (by kernel_rfl) (by kernel_rfl) (by kernel_rfl) (fun _ _ _ h => h) (Or.inl ⟨by rfl, ?yg5⟩) h5 ?_
    case yg5 =>
      intro w hSw
      go_simp; all_goals (with_reducible rfl)
    simp only [Act.put, List.setIfInBounds_toArray, List.set_cons_zero, List.set_cons_succ]
    refine wpAnyH_take (i := 7) (oi := { dst := some 84, op := Op.move (Operand.tmp 83), type := 4, pos := "law.go:33", after := #[{ on := 6, ground := Ground.data }, { on := 4, ground := Ground.chain }], guard := none }) (v := ?vg6) rfl (by kernel_rfl) (by kernel_rfl) (by kernel_rfl) (fun _ _ _ h => h) (Or.inl ⟨by rfl, ?yg6⟩) h5 ?_
    case yg6 =>
      intro w hSw
      go_simp; all_goals (with_reducible rfl)
    simp only [Act.put, List.setIfInBounds_toArray, List.set_cons_zero, List.set_cons_succ]
    refine wpAnyH_take (i := 8) (oi := { dst := some 85, op := Op.move (Operand.tmp 8), type := 23, pos := "law.go:33", after := #[{ on := 7, ground := Ground.guard }], guard := some (7, true) }) (v := ?vg7) rfl (by kernel_rfl) (by kernel_rfl) (by kernel_rfl) (fun _ _ _ h => h) (Or.inl ⟨by rfl, ?yg7⟩) h5 ?_
    case yg7 =>
      intro w hSw
      go_simp; all_goals (with_reducible rfl)
    simp only [Act.put, List.setIfInBounds_toArray, List.set_cons_zero, List.set_cons_succ]
    refine wpAnyH_take (i := 9) (oi := { dst := some 86, op := Op.convert 23 9 (Operand.tmp 85), type := 9, pos := "law.go:33", after := #[{ on := 8, ground := Ground.data }, { on := 7, ground := Ground.guard }], guard := some (7, true) }) (v := ?vg8) rfl (by kernel_rfl) (by kernel_rfl) (by kernel_rfl) (fun _ _ _ h => h) (Or.inl ⟨by rfl, ?yg8⟩) h5 ?_
    case yg8 =>
      intro w hSw
      have k := run_str (hBy.below hSw) cy
      go_simp; all_goals (with_reducible rfl)
    simp only [Act.put, List.setIfInBounds_toArray, List.set_cons_zero, List.set_cons_succ]
    refine wpAnyH_take (i := 10) (oi := { dst := some 87, op := Op.move (Operand.tmp 0), type := 22, pos := "law.go:33", after := #[{ on := 7, ground := Ground.guard }], guard := some (7, true) }) (v := ?vg9) rfl (by kernel_rfl) (by kernel_rfl) (by kernel_rfl) (fun _ _ _ h => h) (Or.inl ⟨by rfl, ?yg9⟩) h5 ?_
    case yg9 =>
      intro w hSw
      go_simp; all_goals (with_reducible rfl)
    simp only [Act.put, List.setIfInBounds_toArray, List.set_cons_zero, List.set_cons_succ]
    refine wpAnyH_take (i := 11) (oi := { dst := some 88, op := Op.move (Operand.tmp 1), type := 23, pos := "law.go:33", after := #[{ on := 7, ground := Ground.guard }], guard := some (7, true) }) (v := ?vg10) rfl (by kernel_rfl) (by kernel_rfl) (by kernel_rfl) (fun _ _ _ h => h) (Or.inl ⟨by rfl, ?yg10⟩) h5 ?_
    case yg10 =>
      intro w hSw
      go_simp; all_goals (with_reducible rfl)
    simp only [Act.put, List.setIfInBounds_toArray, List.set_cons_zero, List.set_cons_succ]
    refine wpAnyH_ready (rs := [12]) (by kernel_rfl) (by simp) ?_
    refine (AllReadyH.cons (o := { dst := some 89, op := Op.call { callee := Callee.value (Operand.func 11), args := #[Operand.tmp 87, Operand.tmp 88], argTypes := #[22, 23] }, type := 23, pos := "law.go:33", after := #[{ on := 10, ground := Ground.data }, { on := 11, ground := Ground.data }, { on := 7, ground := Ground.chain }, { on := 7, ground := Ground.guard }], guard := some (7, true) }) rfl (fun K hK => ?_) AllReadyH.nil)
    go_simp
    refine (HRB.out A0 c0 A c _ (hF.below g5) (hB.below g5) hc hm hc0 hm0).mono ?_
    rintro e w6 ⟨As, cs, rfl, _, _, hBs, hb6⟩
    have ks := run_str hBs cs
    have h6 := h5.trans (hb6.mono h5.size)
    have g6 := g4.trans (h6.mono g4.size)
    clear hb6
    go_wp2_with fail
    refine hK.out _ _ h6 (fun _ => ?_)
    clear hK K
    refine wpAnyH_ready (rs := [13]) (by kernel_rfl) (by simp) ?_
    refine (AllReadyH.cons (o := { dst := some 90, op := Op.convert 23 9 (Operand.tmp 89), type := 9, pos := "law.go:33", after := #[{ on := 12, ground := Ground.data }, { on := 7, ground := Ground.guard }], guard := some (7, true) }) rfl (fun K hK => ?_) AllReadyH.nil)
    go_simp
    refine hK.out _ _ h6 (fun _ => ?_)
    clear hK K
    refine wpAnyH_take (i := 14) (oi := { dst := some 91, op := Op.binOp BinOp.eql 9 (Operand.tmp 86) (Operand.tmp 90) 9, type := 4, pos := "law.go:33", after := #[{ on := 9, ground := Ground.data }, { on := 13, ground := Ground.data }, { on := 7, ground := Ground.guard }], guard := some (7, true) }) (v := ?vg11) rfl (by kernel_rfl) (by kernel_rfl) (by kernel_rfl) (fun _ _ _ h => h) (Or.inl ⟨by rfl, ?yg11⟩) h6 ?_
    case yg11 =>
      intro w hSw
      go_simp; all_goals (with_reducible rfl)
    simp only [Act.put, List.setIfInBounds_toArray, List.set_cons_zero, List.set_cons_succ]
    refine wpAnyH_take (i := 15) (oi := { dst := some 92, op := Op.pick (Operand.tmp 84) (Operand.tmp 91) (Operand.const (Value.bool false)), type := 4, pos := "law.go:33", after := #[{ on := 7, ground := Ground.data }, { on := 14, ground := Ground.data }], guard := none }) (v := ?vg12) rfl (by kernel_rfl) (by kernel_rfl) (by kernel_rfl) (fun _ _ _ h => h) (Or.inl ⟨by rfl, ?yg12⟩) h6 ?_
    case yg12 =>
      intro w hSw
      go_simp; all_goals (with_reducible rfl)
    simp only [Act.put, List.setIfInBounds_toArray, List.set_cons_zero, List.set_cons_succ]
    refine wpAnyH_take (i := 16) (oi := { dst := some 93, op := Op.move (Operand.tmp 92), type := 4, pos := "law.go:33", after := #[{ on := 15, ground := Ground.data }, { on := 12, ground := Ground.chain }], guard := none }) (v := ?vg13) rfl (by kernel_rfl) (by kernel_rfl) (by kernel_rfl) (fun _ _ _ h => h) (Or.inl ⟨by rfl, ?yg13⟩) h6 ?_
    case yg13 =>
      intro w hSw
      go_simp; all_goals (with_reducible rfl)
    simp only [Act.put, List.setIfInBounds_toArray, List.set_cons_zero, List.set_cons_succ]
    refine wpAnyH_take (i := 17) (oi := { dst := some 94, op := Op.move (Operand.tmp 7), type := 25, pos := "law.go:33", after := #[{ on := 16, ground := Ground.guard }], guard := some (16, true) }) (v := ?vg14) rfl (by kernel_rfl) (by kernel_rfl) (by kernel_rfl) (fun _ _ _ h => h) (Or.inl ⟨by rfl, ?yg14⟩) h6 ?_
    case yg14 =>
      intro w hSw
      go_simp; all_goals (with_reducible rfl)
    simp only [Act.put, List.setIfInBounds_toArray, List.set_cons_zero, List.set_cons_succ]
    refine wpAnyH_take (i := 18) (oi := { dst := some 95, op := Op.binOp BinOp.eql 25 (Operand.tmp 94) (Operand.const (Value.int IntKind.i64 0)) 25, type := 4, pos := "law.go:33", after := #[{ on := 17, ground := Ground.data }, { on := 16, ground := Ground.guard }], guard := some (16, true) }) (v := ?vg15) rfl (by kernel_rfl) (by kernel_rfl) (by kernel_rfl) (fun _ _ _ h => h) (Or.inl ⟨by rfl, ?yg15⟩) h6 ?_
    case yg15 =>
      intro w hSw
      go_simp; all_goals (with_reducible rfl)
    simp only [Act.put, List.setIfInBounds_toArray, List.set_cons_zero, List.set_cons_succ]
    refine wpAnyH_take (i := 19) (oi := { dst := some 96, op := Op.pick (Operand.tmp 93) (Operand.tmp 95) (Operand.const (Value.bool false)), type := 4, pos := "law.go:33", after := #[{ on := 16, ground := Ground.data }, { on := 18, ground := Ground.data }], guard := none }) (v := ?vg16) rfl (by kernel_rfl) (by kernel_rfl) (by kernel_rfl) (fun _ _ _ h => h) (Or.inl ⟨by rfl, ?yg16⟩) h6 ?_
    case yg16 =>
      intro w hSw
      go_simp; all_goals (with_reducible rfl)
    simp only [Act.put, List.setIfInBounds_toArray, List.set_cons_zero, List.set_cons_succ]
    refine wpAnyH_take (i := 20) (oi := { dst := some 97, op := Op.move (Operand.tmp 96), type := 4, pos := "law.go:33", after := #[{ on := 19, ground := Ground.data }, { on := 16, ground := Ground.chain }], guard := none }) (v := ?vg17) rfl (by kernel_rfl) (by kernel_rfl) (by kernel_rfl) (fun _ _ _ h => h) (Or.inl ⟨by rfl, ?yg17⟩) h6 ?_
    case yg17 =>
      intro w hSw
      go_simp; all_goals (with_reducible rfl)
    simp only [Act.put, List.setIfInBounds_toArray, List.set_cons_zero, List.set_cons_succ]
    refine wpAnyH_take (i := 21) (oi := { dst := some 98, op := Op.move (Operand.tmp 9), type := 25, pos := "law.go:33", after := #[{ on := 20, ground := Ground.guard }], guard := some (20, true) }) (v := ?vg18) rfl (by kernel_rfl) (by kernel_rfl) (by kernel_rfl) (fun _ _ _ h => h) (Or.inl ⟨by rfl, ?yg18⟩) h6 ?_
    case yg18 =>
      intro w hSw
      go_simp; all_goals (with_reducible rfl)
    simp only [Act.put, List.setIfInBounds_toArray, List.set_cons_zero, List.set_cons_succ]
    refine wpAnyH_take (i := 22) (oi := { dst := some 99, op := Op.binOp BinOp.eql 25 (Operand.tmp 98) (Operand.const (Value.int IntKind.i64 0)) 25, type := 4, pos := "law.go:33", after := #[{ on := 21, ground := Ground.data }, { on := 20, ground := Ground.guard }], guard := some (20, true) }) (v := ?vg19) rfl (by kernel_rfl) (by kernel_rfl) (by kernel_rfl) (fun _ _ _ h => h) (Or.inl ⟨by rfl, ?yg19⟩) h6 ?_
    case yg19 =>
      intro w hSw
      go_simp; all_goals (with_reducible rfl)
    simp only [Act.put, List.setIfInBounds_toArray, List.set_cons_zero, List.set_cons_succ]
    refine wpAnyH_take (i := 23) (oi := { dst := some 100, op := Op.pick (Operand.tmp 97) (Operand.tmp 99) (Operand.const (Value.bool false)), type := 4, pos := "law.go:33", after := #[{ on := 20, ground := Ground.data }, { on := 22, ground := Ground.data }], guard := none }) (v := ?vg20) rfl (by kernel_rfl) (by kernel_rfl) (by kernel_rfl) (fun _ _ _ h => h) (Or.inl ⟨by rfl, ?yg20⟩) h6 ?_
    case yg20 =>
      intro w hSw
      go_simp; all_goals (with_reducible rfl)
    simp only [Act.put, List.setIfInBounds_toArray, List.set_cons_zero, List.set_cons_succ]
    refine wpAnyH_take (i := 24) (oi := { dst := some 101, op := Op.move (Operand.tmp 100), type := 4, pos := "law.go:33", after := #[{ on := 23, ground := Ground.data }, { on := 20, ground := Ground.chain }], guard := none }) (v := ?vg21) rfl (by kernel_rfl) (by kernel_rfl) (by kernel_rfl) (fun _ _ _ h => h) (Or.inl ⟨by rfl, ?yg21⟩) h6 ?_
    case yg21 =>
      intro w hSw
      go_simp; all_goals (with_reducible rfl)
    simp only [Act.put, List.setIfInBounds_toArray, List.set_cons_zero, List.set_cons_succ]
    refine wpAnyH_take (i := 25) (oi := { dst := some 102, op := Op.move (Operand.tmp 11), type := 23, pos := "law.go:33", after := #[{ on := 24, ground := Ground.guard }], guard := some (24, true) }) (v := ?vg22) rfl (by kernel_rfl) (by kernel_rfl) (by kernel_rfl) (fun _ _ _ h => h) (Or.inl ⟨by rfl, ?yg22⟩) h6 ?_
    case yg22 =>
      intro w hSw
      go_simp; all_goals (with_reducible rfl)
    simp only [Act.put, List.setIfInBounds_toArray, List.set_cons_zero, List.set_cons_succ]
    refine wpAnyH_take (i := 26) (oi := { dst := some 103, op := Op.convert 23 9 (Operand.tmp 102), type := 9, pos := "law.go:33", after := #[{ on := 25, ground := Ground.data }, { on := 24, ground := Ground.guard }], guard := some (24, true) }) (v := ?vg23) rfl (by kernel_rfl) (by kernel_rfl) (by kernel_rfl) (fun _ _ _ h => h) (Or.inl ⟨by rfl, ?yg23⟩) h6 ?_
    case yg23 =>
      intro w hSw
      have k := run_str (hBz.below hSw) cz
      go_simp; all_goals (with_reducible rfl)
    simp only [Act.put, List.setIfInBounds_toArray, List.set_cons_zero, List.set_cons_succ]
    refine wpAnyH_take (i := 27) (oi := { dst := some 104, op := Op.move (Operand.tmp 1), type := 23, pos := "law.go:33", after := #[{ on := 24, ground := Ground.guard }], guard := some (24, true) }) (v := ?vg24) rfl (by kernel_rfl) (by kernel_rfl) (by kernel_rfl) (fun _ _ _ h => h) (Or.inl ⟨by rfl, ?yg24⟩) h6 ?_
    case yg24 =>
      intro w hSw
      go_simp; all_goals (with_reducible rfl)
    simp only [Act.put, List.setIfInBounds_toArray, List.set_cons_zero, List.set_cons_succ]
    refine wpAnyH_take (i := 28) (oi := { dst := some 105, op := Op.convert 23 9 (Operand.tmp 104), type := 9, pos := "law.go:33", after := #[{ on := 27, ground := Ground.data }, { on := 24, ground := Ground.guard }], guard := some (24, true) }) (v := ?vg25) rfl (by kernel_rfl) (by kernel_rfl) (by kernel_rfl) (fun _ _ _ h => h) (Or.inl ⟨by rfl, ?yg25⟩) h6 ?_
    case yg25 =>
      intro w hSw
      have k := run_str ((hB.below g4).below hSw) c
      go_simp; all_goals (with_reducible rfl)
    simp only [Act.put, List.setIfInBounds_toArray, List.set_cons_zero, List.set_cons_succ]
    refine wpAnyH_take (i := 29) (oi := { dst := some 106, op := Op.binOp BinOp.eql 9 (Operand.tmp 103) (Operand.tmp 105) 9, type := 4, pos := "law.go:33", after := #[{ on := 26, ground := Ground.data }, { on := 28, ground := Ground.data }, { on := 24, ground := Ground.guard }], guard := some (24, true) }) (v := ?vg26) rfl (by kernel_rfl) (by kernel_rfl) (by kernel_rfl) (fun _ _ _ h => h) (Or.inl ⟨by rfl, ?yg26⟩) h6 ?_
    case yg26 =>
      intro w hSw
      go_simp; all_goals (with_reducible rfl)
    simp only [Act.put, List.setIfInBounds_toArray, List.set_cons_zero, List.set_cons_succ]
    refine wpAnyH_take (i := 30) (oi := { dst := some 107, op := Op.pick (Operand.tmp 101) (Operand.tmp 106) (Operand.const (Value.bool false)), type := 4, pos := "law.go:33", after := #[{ on := 24, ground := Ground.data }, { on := 29, ground := Ground.data }], guard := none }) (v := ?vg27) rfl (by kernel_rfl) (by kernel_rfl) (by kernel_rfl) (fun _ _ _ h => h) (Or.inl ⟨by rfl, ?yg27⟩) h6 ?_
    case yg27 =>
      intro w hSw
      go_simp; all_goals (with_reducible rfl)
    simp only [Act.put, List.setIfInBounds_toArray, List.set_cons_zero, List.set_cons_succ]
    refine wpAnyH_take (i := 31) (oi := { dst := some 108, op := Op.move (Operand.tmp 107), type := 4, pos := "law.go:33", after := #[{ on := 30, ground := Ground.data }, { on := 24, ground := Ground.chain }], guard := none }) (v := ?vg28) rfl (by kernel_rfl) (by kernel_rfl) (by kernel_rfl) (fun _ _ _ h => h) (Or.inl ⟨by rfl, ?yg28⟩) h6 ?_
    case yg28 =>
      intro w hSw
      go_simp; all_goals (with_reducible rfl)
    simp only [Act.put, List.setIfInBounds_toArray, List.set_cons_zero, List.set_cons_succ]
    refine wpAnyH_take (i := 32) (oi := { dst := some 109, op := Op.move (Operand.tmp 12), type := 25, pos := "law.go:33", after := #[{ on := 31, ground := Ground.guard }], guard := some (31, true) }) (v := ?vg29) rfl (by kernel_rfl) (by kernel_rfl) (by kernel_rfl) (fun _ _ _ h => h) (Or.inl ⟨by rfl, ?yg29⟩) h6 ?_
    case yg29 =>
      intro w hSw
      go_simp; all_goals (with_reducible rfl)
    simp only [Act.put, List.setIfInBounds_toArray, List.set_cons_zero, List.set_cons_succ]
    refine wpAnyH_take (i := 33) (oi := { dst := some 110, op := Op.binOp BinOp.eql 25 (Operand.tmp 109) (Operand.const (Value.int IntKind.i64 0)) 25, type := 4, pos := "law.go:33", after := #[{ on := 32, ground := Ground.data }, { on := 31, ground := Ground.guard }], guard := some (31, true) }) (v := ?vg30) rfl (by kernel_rfl) (by kernel_rfl) (by kernel_rfl) (fun _ _ _ h => h) (Or.inl ⟨by rfl, ?yg30⟩) h6 ?_
    case yg30 =>
      intro w hSw
      go_simp; all_goals (with_reducible rfl)
    simp only [Act.put, List.setIfInBounds_toArray, List.set_cons_zero, List.set_cons_succ]
    refine wpAnyH_take (i := 34) (oi := { dst := some 111, op := Op.pick (Operand.tmp 108) (Operand.tmp 110) (Operand.const (Value.bool false)), type := 4, pos := "law.go:33", after := #[{ on := 31, ground := Ground.data }, { on := 33, ground := Ground.data }], guard := none }) (v := ?vg31) rfl (by kernel_rfl) (by kernel_rfl) (by kernel_rfl) (fun _ _ _ h => h) (Or.inl ⟨by rfl, ?yg31⟩) h6 ?_
    case yg31 =>
      intro w hSw
      go_simp; all_goals (with_reducible rfl)
    simp only [Act.put, List.setIfInBounds_toArray, List.set_cons_zero, List.set_cons_succ]
    refine wpAnyH_take (i := 35) (oi := { dst := some 112, op := Op.move (Operand.tmp 111), type := 4, pos := "law.go:33", after := #[{ on := 34, ground := Ground.data }, { on := 31, ground := Ground.chain }], guard := none }) (v := ?vg32) rfl (by kernel_rfl) (by kernel_rfl) (by kernel_rfl) (fun _ _ _ h => h) (Or.inl ⟨by rfl, ?yg32⟩) h6 ?_
    case yg32 =>
      intro w hSw
      go_simp; all_goals (with_reducible rfl)
    simp only [Act.put, List.setIfInBounds_toArray, List.set_cons_zero, List.set_cons_succ]
    refine wpAnyH_ready (rs := [36]) (by kernel_rfl) (by simp) ?_
    refine (AllReadyH.cons (o := { dst := some 113, op := Op.call { callee := Callee.value (Operand.func 5), args := #[], argTypes := #[] }, type := 4, pos := "law.go:33", after := #[{ on := 35, ground := Ground.chain }, { on := 35, ground := Ground.guard }], guard := some (35, true) }) rfl (fun K hK => ?_) AllReadyH.nil)
    go_simp
    refine (knows_any _).mono ?_
    rintro e w7 ⟨rfl, hb7⟩
    have h7 := h6.trans (hb7.mono h6.size)
    have g7 := g4.trans (h7.mono g4.size)
    go_wp2_with fail
    refine hK.out _ _ h7 (fun _ => ?_)
    clear hK K
    refine wpAnyH_take (i := 37) (oi := { dst := some 114, op := Op.pick (Operand.tmp 112) (Operand.tmp 113) (Operand.const (Value.bool false)), type := 4, pos := "law.go:33", after := #[{ on := 35, ground := Ground.data }, { on := 36, ground := Ground.data }], guard := none }) (v := ?vg33) rfl (by kernel_rfl) (by kernel_rfl) (by kernel_rfl) (fun _ _ _ h => h) (Or.inl ⟨by rfl, ?yg33⟩) h7 ?_
    case yg33 =>
      intro w hSw
      go_simp; all_goals (with_reducible rfl)
    simp only [Act.put, List.setIfInBounds_toArray, List.set_cons_zero, List.set_cons_succ]
    refine wpAnyH_take (i := 38) (oi := { dst := some 4, op := Op.assign (Operand.tmp 114), type := 4, pos := "law.go:33", after := #[{ on := 37, ground := Ground.data }, { on := 36, ground := Ground.chain }, { on := 0, ground := Ground.phase }, { on := 1, ground := Ground.phase }, { on := 2, ground := Ground.phase }, { on := 3, ground := Ground.phase }, { on := 4, ground := Ground.phase }, { on := 5, ground := Ground.phase }, { on := 6, ground := Ground.phase }, { on := 7, ground := Ground.phase }, { on := 8, ground := Ground.phase }, { on := 9, ground := Ground.phase }, { on := 10, ground := Ground.phase }, { on := 11, ground := Ground.phase }, { on := 12, ground := Ground.phase }, { on := 13, ground := Ground.phase }, { on := 14, ground := Ground.phase }, { on := 15, ground := Ground.phase }, { on := 16, ground := Ground.phase }, { on := 17, ground := Ground.phase }, { on := 18, ground := Ground.phase }, { on := 19, ground := Ground.phase }, { on := 20, ground := Ground.phase }, { on := 21, ground := Ground.phase }, { on := 22, ground := Ground.phase }, { on := 23, ground := Ground.phase }, { on := 24, ground := Ground.phase }, { on := 25, ground := Ground.phase }, { on := 26, ground := Ground.phase }, { on := 27, ground := Ground.phase }, { on := 28, ground := Ground.phase }, { on := 29, ground := Ground.phase }, { on := 30, ground := Ground.phase }, { on := 31, ground := Ground.phase }, { on := 32, ground := Ground.phase }, { on := 33, ground := Ground.phase }, { on := 34, ground := Ground.phase }, { on := 35, ground := Ground.phase }, { on := 36, ground := Ground.phase }, { on := 37, ground := Ground.phase }], guard := none }) (v := ?vg34) rfl (by kernel_rfl) (by kernel_rfl) (by kernel_rfl) (fun _ _ _ h => h) (Or.inl ⟨by rfl, ?yg34⟩) h7 ?_
    case yg34 =>
      intro w hSw
      go_simp; all_goals (with_reducible rfl)
    simp only [Act.put, List.setIfInBounds_toArray, List.set_cons_zero, List.set_cons_succ]
    refine wpAnyH_done (by kernel_rfl) ?_ _
    go_wp2_with fail
    go_ret
    exact ⟨rfl, g7⟩
  | false =>
    rw [hmay] at HM1 HM2
    have HS := Lib.hid (fun (A : Option Addr) (c : Nat) (w' : World) (hF : Fils w' A0 l) => chsend_no A0 l c0 w' hF hl20 hmay A b.length c)
    have HK := Lib.hid (fun (A : Option Addr) (c : Nat) (w' : World) (hF : Fils w' A0 l) => chback_no A0 l c0 w' hF hl20 hmay A b.length c)
    clear hmay
    go_enter Try.func3, Try.ntmps3
    go_wp2_with (at_builtin; refine wpList_append_bytes rfl (.tmp 22) (.tmp 23) rfl w.heap.size _ _ [] rfl ho A b c rfl (hB.below hb0) hlen hs0 ?_; intro v1 w1 ho1 hg1; have hb1 : Below w.heap.size w w1 := below_grown hb0 hg1 hs0 (fun g hg => (ho.from_base g hg).1))
    rw [List.nil_append] at ho1
    obtain ⟨A1, c1, rfl, hc1, hm1, hB1⟩ := ho1.read
    clear ho hb0 hs0 hlen hg1 ho1
    refine (HS.out A1 c1 _ (hF.below hb1)).mono ?_
    rintro e w2 ⟨rfl, hb2⟩
    have g2 := hb1.trans (hb2.mono hb1.size)
    go_wp2_with fail
    refine (HK.out A1 c1 _ (hF.below g2)).mono ?_
    rintro e w3 ⟨rfl, hb3⟩
    have g3 := g2.trans (hb3.mono g2.size)
    go_wp2_with fail
    refine (HM1.out _ (hF.below g3)).mono ?_
    rintro e w3a ⟨rfl, hb3a⟩
    have g3a := g3.trans (hb3a.mono g3.size)
    go_wp2_with fail
    refine (HM2.out _ (hF.below g3a)).mono ?_
    rintro e w3b ⟨rfl, hb3b⟩
    have g3b := g3a.trans (hb3b.mono g3a.size)
    have q3 := hb3a.trans (hb3b.mono hb3a.size)
    have p3 := hb3.trans (q3.mono hb3.size)
    have p2 := hb2.trans (p3.mono hb2.size)
    have k1 := run_str (hB1.below p2) c1
    have k2 := run_str (hB.below g3b) c
    clear hb1 hb2 hb3 hb3a hb3b g2 g3 g3a q3 p3 p2 hB1
    go_wp2_with fail
    refine (knows_any _).mono ?_
    rintro e w4 ⟨rfl, hb4⟩
    go_wp2_with fail
    go_ret
    exact ⟨rfl, g3b.trans (hb4.mono g3b.size)⟩
end Go.Proofs.Ytflklbnebljnmaa
