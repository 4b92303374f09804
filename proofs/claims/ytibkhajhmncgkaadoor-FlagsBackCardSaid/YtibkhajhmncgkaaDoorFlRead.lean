/- The walks over flags.ReadHead and ReadFoot. -/
import Derived.Test.YtibkhajhmncgkaaDoorFlEq
import Derived.Deep.RegionHeld3
namespace Go.Proofs.YtibkhajhmncgkaaDoor
open Go.RowKit

set_option maxRecDepth 100000 in
set_option maxHeartbeats 2000000 in
theorem readHead_any (A : Option Addr) (l : List UInt8) (c : Nat) (w : World) (hT : Tabs w) (hB : Bytes w A l) (hc : l.length ≤ c) (hm : c ≤ 9223372036854775807) (hn : l.length ≤ 100000000) :
    Calls Tryd.prog 16 #[.slice A l.length c] w fun e w' => e = .returned (.tuple #[.int .i64 (readHeadR l).1, .int .i64 (readHeadR l).2]) ∧ Below w.heap.size w w' := by
  by_cases h12 : l.length < 12
  · have hr : readHeadR l = (0, 2) := by unfold readHeadR; rw [if_pos h12]
    rw [hr]
    have hi : (l.length : Int) < 12 := by omega
    clear hr h12
    go_enter Tryd.func16, Tryd.ntmps16
    go_wp2_with fail
    go_ret2
    exact ⟨rfl, Below.refl _ _⟩
  obtain ⟨bb, off, rfl, hbl, hcl⟩ := hB.addr (by omega)
  have hBM := hB.part 0 6
  have hBF := hB.part 8 4
  have hBS := hB.part 6 2
  have HP1 : Hid ((part l 0 6).length = 6) := Lib.hid (part_length _ _ _ (by omega))
  have HP2 : Hid ((part l 8 4).length = 4) := Lib.hid (part_length _ _ _ (by omega))
  have HP3 : Hid ((part l 6 2).length = 2) := Lib.hid (part_length _ _ _ (by omega))
  have hli : (12 : Int) ≤ (l.length : Int) := by omega
  have hci : (12 : Int) ≤ (c : Int) := by omega
  have hcl2 : (l.length : Int) ≤ (c : Int) := by omega
  have hcm : (c : Int) ≤ 9223372036854775807 := by omega
  have HK : Hid (12 ≤ c ∧ c ≤ 9223372036854775807 ∧ 12 ≤ l.length) := Lib.hid ⟨by omega, by omega, by omega⟩
  have hrr : readHeadR l = if (part l 0 6 == magicH) = false then (0, 3) else if (part l 8 4 == sumB 1 (part l 6 2)) = false then (0, 4) else flagsR (l.getD 6 0) (l.getD 7 0) := by unfold readHeadR; rw [if_neg h12]
  have HT := Lib.hid hT
  have HPT := Lib.hid (part_two l 6 (by omega))
  have HCS := Lib.hid (fun w' (h : Tabs w') (hb : Bytes w' (some ⟨bb, off + 6, none⟩) (part l 6 2)) => chk_any 1 (some ⟨bb, off + 6, none⟩) (part l 6 2) (c - 6) w' h hb (by rw [HP3.out]; omega) (by omega) (by rw [HP3.out]; omega))
  rw [HP3.out] at HCS
  have HD5 : Hid ((sumB 1 (part l 6 2)).length = 4) := Lib.hid (sum1_length _)
  rw [Nat.add_zero] at hBM
  have HBF := Lib.hid hBF
  have HBS := Lib.hid hBS
  have HB0 := Lib.hid hB
  generalize sumB 1 (part l 6 2) = SM at *
  generalize part l 0 6 = P1 at *
  generalize part l 8 4 = P2 at *
  clear hT hB hcl hBF hBS h12 hc hm hn
  cases h1 : (P1 == magicH) with
  | false =>
    have HD1 := Lib.hid h1
    have hr : readHeadR l = (0, 3) := by rw [hrr, if_pos h1]
    rw [hr]
    clear hr hrr h1
    go_enter Tryd.func16, Tryd.ntmps16
    go_wp2_with fail
    have hdr : Below w.heap.size w w.drew := below_drew w
    refine wp_region_held_drew (S := fun w' => Below w.heap.size w w') (by kernel_rfl) hdr (fun hS => ?_)
    refine wpAnyH_take (i := 0) (oi := { dst := some 9, op := Op.move (Operand.tmp 0), type := 22, pos := "flags.go:53", after := #[], guard := none }) (v := ?va1) rfl (by kernel_rfl) (by kernel_rfl) (by kernel_rfl) (fun _ _ _ h => h) (Or.inl ⟨by rfl, ?ya1⟩) hS ?_
    case ya1 =>
      intro w hSw
      go_simp; all_goals (with_reducible rfl)
    simp only [Act.put, List.setIfInBounds_toArray, List.set_cons_zero, List.set_cons_succ]
    refine wpAnyH_take (i := 1) (oi := { dst := some 10, op := Op.slice 22 (Operand.tmp 9) none (some (Operand.const (Value.int IntKind.i64 6))) none, type := 22, pos := "flags.go:53", after := #[{ on := 0, ground := Ground.data }], guard := none }) (v := ?va2) rfl (by kernel_rfl) (by kernel_rfl) (by kernel_rfl) (fun _ _ _ h => h) (Or.inl ⟨by rfl, ?ya2⟩) hS ?_
    case ya2 =>
      intro w hSw
      have i2 : (2 : Int) ≤ (c : Int) := by omega
      have i4 : (4 : Int) ≤ (c : Int) := by omega
      have i6 : (6 : Int) ≤ (c : Int) := by omega
      have i8 : (8 : Int) ≤ (c : Int) := by omega
      have i10 : (10 : Int) ≤ (c : Int) := by omega
      have n2 : ¬ c = 2 := by have := HK.out; omega
      have n4 : ¬ c = 4 := by have := HK.out; omega
      have n6 : ¬ c = 6 := by have := HK.out; omega
      have n8 : ¬ c = 8 := by have := HK.out; omega
      have n10 : ¬ c = 10 := by have := HK.out; omega
      go_simp; all_goals (with_reducible rfl)
    simp only [Act.put, List.setIfInBounds_toArray, List.set_cons_zero, List.set_cons_succ]
    refine wpAnyH_ready (rs := [2]) (by kernel_rfl) (by simp) ?_
    refine (AllReadyH.cons (o := { dst := some 11, op := Op.call { callee := Callee.value (Operand.func 21), args := #[], argTypes := #[] }, type := 22, pos := "flags.go:53", after := #[], guard := none }) rfl (fun K hK => ?_) AllReadyH.nil)
    go_simp
    refine (headMagic_any _).mono ?_
    rintro e w2 ⟨v2, rfl, ho2, hb2⟩
    have g2 : Below w.heap.size w w2 := hdr.trans (hb2.mono hdr.size)
    obtain ⟨A2, c2, rfl, hc2, hm2, hB2⟩ := ho2.read
    have HEQ := Lib.hid (equal_any _ _ _ _ c c2 w2 (hBM.below g2) hB2)
    clear ho2 hb2 hB2
    go_wp2_with fail
    refine hK.out _ _ g2 (fun _ => ?_)
    clear hK K
    refine wpAnyH_ready (rs := [3]) (by kernel_rfl) (by simp) ?_
    refine (AllReadyH.cons (o := { dst := some 12, op := Op.call { callee := Callee.value (Operand.func 29), args := #[Operand.tmp 10, Operand.tmp 11], argTypes := #[22, 22] }, type := 4, pos := "flags.go:53", after := #[{ on := 1, ground := Ground.data }, { on := 2, ground := Ground.data }, { on := 2, ground := Ground.chain }], guard := none }) rfl (fun K hK => ?_) AllReadyH.nil)
    go_simp
    rw [HP1.out] at HEQ
    refine HEQ.out.mono ?_
    rintro e w3 ⟨rfl, rfl⟩
    rw [HD1.out]
    go_wp2_with fail
    refine hK.out _ _ g2 (fun _ => ?_)
    clear hK K
    refine wpAnyH_take (i := 4) (oi := { dst := some 13, op := Op.unOp UnOp.not 4 (Operand.tmp 12), type := 4, pos := "flags.go:53", after := #[{ on := 3, ground := Ground.data }], guard := none }) (v := ?va3) rfl (by kernel_rfl) (by kernel_rfl) (by kernel_rfl) (fun _ _ _ h => h) (Or.inl ⟨by rfl, ?ya3⟩) g2 ?_
    case ya3 =>
      intro w hSw
      go_simp; all_goals (with_reducible rfl)
    simp only [Act.put, List.setIfInBounds_toArray, List.set_cons_zero, List.set_cons_succ]
    refine wpAnyH_take (i := 5) (oi := { dst := some 8, op := Op.assign (Operand.tmp 13), type := 4, pos := "flags.go:53", after := #[{ on := 4, ground := Ground.data }, { on := 3, ground := Ground.chain }], guard := none }) (v := ?va4) rfl (by kernel_rfl) (by kernel_rfl) (by kernel_rfl) (fun _ _ _ h => h) (Or.inl ⟨by rfl, ?ya4⟩) g2 ?_
    case ya4 =>
      intro w hSw
      go_simp; all_goals (with_reducible rfl)
    simp only [Act.put, List.setIfInBounds_toArray, List.set_cons_zero, List.set_cons_succ]
    refine wpAnyH_done (by kernel_rfl) ?_ _
    go_wp2_with fail
    go_ret2
    exact ⟨rfl, g2⟩
  | true =>
    have HD1 := Lib.hid h1
    rw [if_neg (by rw [h1]; simp)] at hrr
    cases h2 : (P2 == SM) with
    | false =>
      have HD2 := Lib.hid h2
      have hr : readHeadR l = (0, 4) := by rw [hrr, if_pos h2]
      rw [hr]
      clear hr hrr h1 h2
      go_enter Tryd.func16, Tryd.ntmps16
      go_wp2_with fail
      have hdr : Below w.heap.size w w.drew := below_drew w
      refine wp_region_held_drew (S := fun w' => Below w.heap.size w w') (by kernel_rfl) hdr (fun hS => ?_)
      refine wpAnyH_take (i := 0) (oi := { dst := some 9, op := Op.move (Operand.tmp 0), type := 22, pos := "flags.go:53", after := #[], guard := none }) (v := ?vb5) rfl (by kernel_rfl) (by kernel_rfl) (by kernel_rfl) (fun _ _ _ h => h) (Or.inl ⟨by rfl, ?yb5⟩) hS ?_
      case yb5 =>
        intro w hSw
        go_simp; all_goals (with_reducible rfl)
      simp only [Act.put, List.setIfInBounds_toArray, List.set_cons_zero, List.set_cons_succ]
      refine wpAnyH_take (i := 1) (oi := { dst := some 10, op := Op.slice 22 (Operand.tmp 9) none (some (Operand.const (Value.int IntKind.i64 6))) none, type := 22, pos := "flags.go:53", after := #[{ on := 0, ground := Ground.data }], guard := none }) (v := ?vb6) rfl (by kernel_rfl) (by kernel_rfl) (by kernel_rfl) (fun _ _ _ h => h) (Or.inl ⟨by rfl, ?yb6⟩) hS ?_
      case yb6 =>
        intro w hSw
        have i2 : (2 : Int) ≤ (c : Int) := by omega
        have i4 : (4 : Int) ≤ (c : Int) := by omega
        have i6 : (6 : Int) ≤ (c : Int) := by omega
        have i8 : (8 : Int) ≤ (c : Int) := by omega
        have i10 : (10 : Int) ≤ (c : Int) := by omega
        have n2 : ¬ c = 2 := by have := HK.out; omega
        have n4 : ¬ c = 4 := by have := HK.out; omega
        have n6 : ¬ c = 6 := by have := HK.out; omega
        have n8 : ¬ c = 8 := by have := HK.out; omega
        have n10 : ¬ c = 10 := by have := HK.out; omega
        go_simp; all_goals (with_reducible rfl)
      simp only [Act.put, List.setIfInBounds_toArray, List.set_cons_zero, List.set_cons_succ]
      refine wpAnyH_ready (rs := [2]) (by kernel_rfl) (by simp) ?_
      refine (AllReadyH.cons (o := { dst := some 11, op := Op.call { callee := Callee.value (Operand.func 21), args := #[], argTypes := #[] }, type := 22, pos := "flags.go:53", after := #[], guard := none }) rfl (fun K hK => ?_) AllReadyH.nil)
      go_simp
      refine (headMagic_any _).mono ?_
      rintro e w2 ⟨v2, rfl, ho2, hb2⟩
      have g2 : Below w.heap.size w w2 := hdr.trans (hb2.mono hdr.size)
      obtain ⟨A2, c2, rfl, hc2, hm2, hB2⟩ := ho2.read
      have HEQ := Lib.hid (equal_any _ _ _ _ c c2 w2 (hBM.below g2) hB2)
      clear ho2 hb2 hB2
      go_wp2_with fail
      refine hK.out _ _ g2 (fun _ => ?_)
      clear hK K
      refine wpAnyH_ready (rs := [3]) (by kernel_rfl) (by simp) ?_
      refine (AllReadyH.cons (o := { dst := some 12, op := Op.call { callee := Callee.value (Operand.func 29), args := #[Operand.tmp 10, Operand.tmp 11], argTypes := #[22, 22] }, type := 4, pos := "flags.go:53", after := #[{ on := 1, ground := Ground.data }, { on := 2, ground := Ground.data }, { on := 2, ground := Ground.chain }], guard := none }) rfl (fun K hK => ?_) AllReadyH.nil)
      go_simp
      rw [HP1.out] at HEQ
      refine HEQ.out.mono ?_
      rintro e w3 ⟨rfl, rfl⟩
      rw [HD1.out]
      go_wp2_with fail
      refine hK.out _ _ g2 (fun _ => ?_)
      clear hK K
      refine wpAnyH_take (i := 4) (oi := { dst := some 13, op := Op.unOp UnOp.not 4 (Operand.tmp 12), type := 4, pos := "flags.go:53", after := #[{ on := 3, ground := Ground.data }], guard := none }) (v := ?vb7) rfl (by kernel_rfl) (by kernel_rfl) (by kernel_rfl) (fun _ _ _ h => h) (Or.inl ⟨by rfl, ?yb7⟩) g2 ?_
      case yb7 =>
        intro w hSw
        go_simp; all_goals (with_reducible rfl)
      simp only [Act.put, List.setIfInBounds_toArray, List.set_cons_zero, List.set_cons_succ]
      refine wpAnyH_take (i := 5) (oi := { dst := some 8, op := Op.assign (Operand.tmp 13), type := 4, pos := "flags.go:53", after := #[{ on := 4, ground := Ground.data }, { on := 3, ground := Ground.chain }], guard := none }) (v := ?vb8) rfl (by kernel_rfl) (by kernel_rfl) (by kernel_rfl) (fun _ _ _ h => h) (Or.inl ⟨by rfl, ?yb8⟩) g2 ?_
      case yb8 =>
        intro w hSw
        go_simp; all_goals (with_reducible rfl)
      simp only [Act.put, List.setIfInBounds_toArray, List.set_cons_zero, List.set_cons_succ]
      refine wpAnyH_done (by kernel_rfl) ?_ _
      go_wp2_with fail
      have hS2 : Below w.heap.size w w2.drew := g2.drew
      refine wp_region_held_drew (S := fun w' => Below w.heap.size w w') (by kernel_rfl) hS2 (fun hS => ?_)
      refine wpAnyH_take (i := 0) (oi := { dst := some 15, op := Op.move (Operand.tmp 0), type := 22, pos := "flags.go:55", after := #[], guard := none }) (v := ?vc9) rfl (by kernel_rfl) (by kernel_rfl) (by kernel_rfl) (fun _ _ _ h => h) (Or.inl ⟨by rfl, ?yc9⟩) hS ?_
      case yc9 =>
        intro w hSw
        go_simp; all_goals (with_reducible rfl)
      simp only [Act.put, List.setIfInBounds_toArray, List.set_cons_zero, List.set_cons_succ]
      refine wpAnyH_take (i := 1) (oi := { dst := some 16, op := Op.slice 22 (Operand.tmp 15) (some (Operand.const (Value.int IntKind.i64 8))) (some (Operand.const (Value.int IntKind.i64 12))) none, type := 22, pos := "flags.go:55", after := #[{ on := 0, ground := Ground.data }], guard := none }) (v := ?vc10) rfl (by kernel_rfl) (by kernel_rfl) (by kernel_rfl) (fun _ _ _ h => h) (Or.inl ⟨by rfl, ?yc10⟩) hS ?_
      case yc10 =>
        intro w hSw
        have i2 : (2 : Int) ≤ (c : Int) := by omega
        have i4 : (4 : Int) ≤ (c : Int) := by omega
        have i6 : (6 : Int) ≤ (c : Int) := by omega
        have i8 : (8 : Int) ≤ (c : Int) := by omega
        have i10 : (10 : Int) ≤ (c : Int) := by omega
        have n2 : ¬ c = 2 := by have := HK.out; omega
        have n4 : ¬ c = 4 := by have := HK.out; omega
        have n6 : ¬ c = 6 := by have := HK.out; omega
        have n8 : ¬ c = 8 := by have := HK.out; omega
        have n10 : ¬ c = 10 := by have := HK.out; omega
        go_simp; all_goals (with_reducible rfl)
      simp only [Act.put, List.setIfInBounds_toArray, List.set_cons_zero, List.set_cons_succ]
      refine wpAnyH_take (i := 2) (oi := { dst := some 17, op := Op.move (Operand.tmp 0), type := 22, pos := "flags.go:55", after := #[], guard := none }) (v := ?vc11) rfl (by kernel_rfl) (by kernel_rfl) (by kernel_rfl) (fun _ _ _ h => h) (Or.inl ⟨by rfl, ?yc11⟩) hS ?_
      case yc11 =>
        intro w hSw
        go_simp; all_goals (with_reducible rfl)
      simp only [Act.put, List.setIfInBounds_toArray, List.set_cons_zero, List.set_cons_succ]
      refine wpAnyH_take (i := 3) (oi := { dst := some 18, op := Op.slice 22 (Operand.tmp 17) (some (Operand.const (Value.int IntKind.i64 6))) (some (Operand.const (Value.int IntKind.i64 8))) none, type := 22, pos := "flags.go:55", after := #[{ on := 2, ground := Ground.data }], guard := none }) (v := ?vc12) rfl (by kernel_rfl) (by kernel_rfl) (by kernel_rfl) (fun _ _ _ h => h) (Or.inl ⟨by rfl, ?yc12⟩) hS ?_
      case yc12 =>
        intro w hSw
        have i2 : (2 : Int) ≤ (c : Int) := by omega
        have i4 : (4 : Int) ≤ (c : Int) := by omega
        have i6 : (6 : Int) ≤ (c : Int) := by omega
        have i8 : (8 : Int) ≤ (c : Int) := by omega
        have i10 : (10 : Int) ≤ (c : Int) := by omega
        have n2 : ¬ c = 2 := by have := HK.out; omega
        have n4 : ¬ c = 4 := by have := HK.out; omega
        have n6 : ¬ c = 6 := by have := HK.out; omega
        have n8 : ¬ c = 8 := by have := HK.out; omega
        have n10 : ¬ c = 10 := by have := HK.out; omega
        go_simp; all_goals (with_reducible rfl)
      simp only [Act.put, List.setIfInBounds_toArray, List.set_cons_zero, List.set_cons_succ]
      refine wpAnyH_ready (rs := [4]) (by kernel_rfl) (by simp) ?_
      refine (AllReadyH.cons (o := { dst := some 19, op := Op.call { callee := Callee.value (Operand.func 12), args := #[Operand.const (Value.int IntKind.i64 1), Operand.tmp 18], argTypes := #[3, 22] }, type := 22, pos := "flags.go:55", after := #[{ on := 3, ground := Ground.data }], guard := none }) rfl (fun K hK => ?_) AllReadyH.nil)
      go_simp
      refine (HCS.out _ (HT.out.below hS2) (HBS.out.below hS2)).mono ?_
      rintro e w5 ⟨A5, c5, rfl, hc5, hm5, hB5, hb5⟩
      have g5 : Below w.heap.size w w5 := hS2.trans (hb5.mono hS2.size)
      have HEQ := Lib.hid (equal_any _ _ _ _ (c - 8) c5 w5 (HBF.out.below g5) hB5)
      clear hb5 hB5
      rw [HD5.out]
      go_wp2_with fail
      refine hK.out _ _ g5 (fun _ => ?_)
      clear hK K
      refine wpAnyH_ready (rs := [5]) (by kernel_rfl) (by simp) ?_
      refine (AllReadyH.cons (o := { dst := some 20, op := Op.call { callee := Callee.value (Operand.func 29), args := #[Operand.tmp 16, Operand.tmp 19], argTypes := #[22, 22] }, type := 4, pos := "flags.go:55", after := #[{ on := 1, ground := Ground.data }, { on := 4, ground := Ground.data }, { on := 4, ground := Ground.chain }], guard := none }) rfl (fun K hK => ?_) AllReadyH.nil)
      go_simp
      rw [HP2.out, HD5.out] at HEQ
      refine HEQ.out.mono ?_
      rintro e w6 ⟨rfl, rfl⟩
      rw [HD2.out]
      go_wp2_with fail
      refine hK.out _ _ g5 (fun _ => ?_)
      clear hK K
      refine wpAnyH_take (i := 6) (oi := { dst := some 21, op := Op.unOp UnOp.not 4 (Operand.tmp 20), type := 4, pos := "flags.go:55", after := #[{ on := 5, ground := Ground.data }], guard := none }) (v := ?vc13) rfl (by kernel_rfl) (by kernel_rfl) (by kernel_rfl) (fun _ _ _ h => h) (Or.inl ⟨by rfl, ?yc13⟩) g5 ?_
      case yc13 =>
        intro w hSw
        go_simp; all_goals (with_reducible rfl)
      simp only [Act.put, List.setIfInBounds_toArray, List.set_cons_zero, List.set_cons_succ]
      refine wpAnyH_take (i := 7) (oi := { dst := some 14, op := Op.assign (Operand.tmp 21), type := 4, pos := "flags.go:55", after := #[{ on := 6, ground := Ground.data }, { on := 5, ground := Ground.chain }], guard := none }) (v := ?vc14) rfl (by kernel_rfl) (by kernel_rfl) (by kernel_rfl) (fun _ _ _ h => h) (Or.inl ⟨by rfl, ?yc14⟩) g5 ?_
      case yc14 =>
        intro w hSw
        go_simp; all_goals (with_reducible rfl)
      simp only [Act.put, List.setIfInBounds_toArray, List.set_cons_zero, List.set_cons_succ]
      refine wpAnyH_done (by kernel_rfl) ?_ _
      go_wp2_with fail
      go_ret2
      exact ⟨rfl, g5⟩
    | true =>
      have HD2 := Lib.hid h2
      have hr : readHeadR l = flagsR (l.getD 6 0) (l.getD 7 0) := by rw [hrr, if_neg (by rw [h2]; simp)]
      rw [hr]
      have HRF := Lib.hid (fun w' (h : Bytes w' (some ⟨bb, off + 6, none⟩) [l.getD 6 0, l.getD 7 0]) => readFlags_any (some ⟨bb, off + 6, none⟩) (l.getD 6 0) (l.getD 7 0) (c - 6) w' h)
      generalize l.getD 6 0 = x at *
      generalize l.getD 7 0 = y at *
      generalize flagsR x y = R at *
      clear hr hrr h1 h2
      go_enter Tryd.func16, Tryd.ntmps16
      go_wp2_with fail
      have hdr : Below w.heap.size w w.drew := below_drew w
      refine wp_region_held_drew (S := fun w' => Below w.heap.size w w') (by kernel_rfl) hdr (fun hS => ?_)
      refine wpAnyH_take (i := 0) (oi := { dst := some 9, op := Op.move (Operand.tmp 0), type := 22, pos := "flags.go:53", after := #[], guard := none }) (v := ?vd15) rfl (by kernel_rfl) (by kernel_rfl) (by kernel_rfl) (fun _ _ _ h => h) (Or.inl ⟨by rfl, ?yd15⟩) hS ?_
      case yd15 =>
        intro w hSw
        go_simp; all_goals (with_reducible rfl)
      simp only [Act.put, List.setIfInBounds_toArray, List.set_cons_zero, List.set_cons_succ]
      refine wpAnyH_take (i := 1) (oi := { dst := some 10, op := Op.slice 22 (Operand.tmp 9) none (some (Operand.const (Value.int IntKind.i64 6))) none, type := 22, pos := "flags.go:53", after := #[{ on := 0, ground := Ground.data }], guard := none }) (v := ?vd16) rfl (by kernel_rfl) (by kernel_rfl) (by kernel_rfl) (fun _ _ _ h => h) (Or.inl ⟨by rfl, ?yd16⟩) hS ?_
      case yd16 =>
        intro w hSw
        have i2 : (2 : Int) ≤ (c : Int) := by omega
        have i4 : (4 : Int) ≤ (c : Int) := by omega
        have i6 : (6 : Int) ≤ (c : Int) := by omega
        have i8 : (8 : Int) ≤ (c : Int) := by omega
        have i10 : (10 : Int) ≤ (c : Int) := by omega
        have n2 : ¬ c = 2 := by have := HK.out; omega
        have n4 : ¬ c = 4 := by have := HK.out; omega
        have n6 : ¬ c = 6 := by have := HK.out; omega
        have n8 : ¬ c = 8 := by have := HK.out; omega
        have n10 : ¬ c = 10 := by have := HK.out; omega
        go_simp; all_goals (with_reducible rfl)
      simp only [Act.put, List.setIfInBounds_toArray, List.set_cons_zero, List.set_cons_succ]
      refine wpAnyH_ready (rs := [2]) (by kernel_rfl) (by simp) ?_
      refine (AllReadyH.cons (o := { dst := some 11, op := Op.call { callee := Callee.value (Operand.func 21), args := #[], argTypes := #[] }, type := 22, pos := "flags.go:53", after := #[], guard := none }) rfl (fun K hK => ?_) AllReadyH.nil)
      go_simp
      refine (headMagic_any _).mono ?_
      rintro e w2 ⟨v2, rfl, ho2, hb2⟩
      have g2 : Below w.heap.size w w2 := hdr.trans (hb2.mono hdr.size)
      obtain ⟨A2, c2, rfl, hc2, hm2, hB2⟩ := ho2.read
      have HEQ := Lib.hid (equal_any _ _ _ _ c c2 w2 (hBM.below g2) hB2)
      clear ho2 hb2 hB2
      go_wp2_with fail
      refine hK.out _ _ g2 (fun _ => ?_)
      clear hK K
      refine wpAnyH_ready (rs := [3]) (by kernel_rfl) (by simp) ?_
      refine (AllReadyH.cons (o := { dst := some 12, op := Op.call { callee := Callee.value (Operand.func 29), args := #[Operand.tmp 10, Operand.tmp 11], argTypes := #[22, 22] }, type := 4, pos := "flags.go:53", after := #[{ on := 1, ground := Ground.data }, { on := 2, ground := Ground.data }, { on := 2, ground := Ground.chain }], guard := none }) rfl (fun K hK => ?_) AllReadyH.nil)
      go_simp
      rw [HP1.out] at HEQ
      refine HEQ.out.mono ?_
      rintro e w3 ⟨rfl, rfl⟩
      rw [HD1.out]
      go_wp2_with fail
      refine hK.out _ _ g2 (fun _ => ?_)
      clear hK K
      refine wpAnyH_take (i := 4) (oi := { dst := some 13, op := Op.unOp UnOp.not 4 (Operand.tmp 12), type := 4, pos := "flags.go:53", after := #[{ on := 3, ground := Ground.data }], guard := none }) (v := ?vd17) rfl (by kernel_rfl) (by kernel_rfl) (by kernel_rfl) (fun _ _ _ h => h) (Or.inl ⟨by rfl, ?yd17⟩) g2 ?_
      case yd17 =>
        intro w hSw
        go_simp; all_goals (with_reducible rfl)
      simp only [Act.put, List.setIfInBounds_toArray, List.set_cons_zero, List.set_cons_succ]
      refine wpAnyH_take (i := 5) (oi := { dst := some 8, op := Op.assign (Operand.tmp 13), type := 4, pos := "flags.go:53", after := #[{ on := 4, ground := Ground.data }, { on := 3, ground := Ground.chain }], guard := none }) (v := ?vd18) rfl (by kernel_rfl) (by kernel_rfl) (by kernel_rfl) (fun _ _ _ h => h) (Or.inl ⟨by rfl, ?yd18⟩) g2 ?_
      case yd18 =>
        intro w hSw
        go_simp; all_goals (with_reducible rfl)
      simp only [Act.put, List.setIfInBounds_toArray, List.set_cons_zero, List.set_cons_succ]
      refine wpAnyH_done (by kernel_rfl) ?_ _
      go_wp2_with fail
      have hS2 : Below w.heap.size w w2.drew := g2.drew
      refine wp_region_held_drew (S := fun w' => Below w.heap.size w w') (by kernel_rfl) hS2 (fun hS => ?_)
      refine wpAnyH_take (i := 0) (oi := { dst := some 15, op := Op.move (Operand.tmp 0), type := 22, pos := "flags.go:55", after := #[], guard := none }) (v := ?ve19) rfl (by kernel_rfl) (by kernel_rfl) (by kernel_rfl) (fun _ _ _ h => h) (Or.inl ⟨by rfl, ?ye19⟩) hS ?_
      case ye19 =>
        intro w hSw
        go_simp; all_goals (with_reducible rfl)
      simp only [Act.put, List.setIfInBounds_toArray, List.set_cons_zero, List.set_cons_succ]
      refine wpAnyH_take (i := 1) (oi := { dst := some 16, op := Op.slice 22 (Operand.tmp 15) (some (Operand.const (Value.int IntKind.i64 8))) (some (Operand.const (Value.int IntKind.i64 12))) none, type := 22, pos := "flags.go:55", after := #[{ on := 0, ground := Ground.data }], guard := none }) (v := ?ve20) rfl (by kernel_rfl) (by kernel_rfl) (by kernel_rfl) (fun _ _ _ h => h) (Or.inl ⟨by rfl, ?ye20⟩) hS ?_
      case ye20 =>
        intro w hSw
        have i2 : (2 : Int) ≤ (c : Int) := by omega
        have i4 : (4 : Int) ≤ (c : Int) := by omega
        have i6 : (6 : Int) ≤ (c : Int) := by omega
        have i8 : (8 : Int) ≤ (c : Int) := by omega
        have i10 : (10 : Int) ≤ (c : Int) := by omega
        have n2 : ¬ c = 2 := by have := HK.out; omega
        have n4 : ¬ c = 4 := by have := HK.out; omega
        have n6 : ¬ c = 6 := by have := HK.out; omega
        have n8 : ¬ c = 8 := by have := HK.out; omega
        have n10 : ¬ c = 10 := by have := HK.out; omega
        go_simp; all_goals (with_reducible rfl)
      simp only [Act.put, List.setIfInBounds_toArray, List.set_cons_zero, List.set_cons_succ]
      refine wpAnyH_take (i := 2) (oi := { dst := some 17, op := Op.move (Operand.tmp 0), type := 22, pos := "flags.go:55", after := #[], guard := none }) (v := ?ve21) rfl (by kernel_rfl) (by kernel_rfl) (by kernel_rfl) (fun _ _ _ h => h) (Or.inl ⟨by rfl, ?ye21⟩) hS ?_
      case ye21 =>
        intro w hSw
        go_simp; all_goals (with_reducible rfl)
      simp only [Act.put, List.setIfInBounds_toArray, List.set_cons_zero, List.set_cons_succ]
      refine wpAnyH_take (i := 3) (oi := { dst := some 18, op := Op.slice 22 (Operand.tmp 17) (some (Operand.const (Value.int IntKind.i64 6))) (some (Operand.const (Value.int IntKind.i64 8))) none, type := 22, pos := "flags.go:55", after := #[{ on := 2, ground := Ground.data }], guard := none }) (v := ?ve22) rfl (by kernel_rfl) (by kernel_rfl) (by kernel_rfl) (fun _ _ _ h => h) (Or.inl ⟨by rfl, ?ye22⟩) hS ?_
      case ye22 =>
        intro w hSw
        have i2 : (2 : Int) ≤ (c : Int) := by omega
        have i4 : (4 : Int) ≤ (c : Int) := by omega
        have i6 : (6 : Int) ≤ (c : Int) := by omega
        have i8 : (8 : Int) ≤ (c : Int) := by omega
        have i10 : (10 : Int) ≤ (c : Int) := by omega
        have n2 : ¬ c = 2 := by have := HK.out; omega
        have n4 : ¬ c = 4 := by have := HK.out; omega
        have n6 : ¬ c = 6 := by have := HK.out; omega
        have n8 : ¬ c = 8 := by have := HK.out; omega
        have n10 : ¬ c = 10 := by have := HK.out; omega
        go_simp; all_goals (with_reducible rfl)
      simp only [Act.put, List.setIfInBounds_toArray, List.set_cons_zero, List.set_cons_succ]
      refine wpAnyH_ready (rs := [4]) (by kernel_rfl) (by simp) ?_
      refine (AllReadyH.cons (o := { dst := some 19, op := Op.call { callee := Callee.value (Operand.func 12), args := #[Operand.const (Value.int IntKind.i64 1), Operand.tmp 18], argTypes := #[3, 22] }, type := 22, pos := "flags.go:55", after := #[{ on := 3, ground := Ground.data }], guard := none }) rfl (fun K hK => ?_) AllReadyH.nil)
      go_simp
      refine (HCS.out _ (HT.out.below hS2) (HBS.out.below hS2)).mono ?_
      rintro e w5 ⟨A5, c5, rfl, hc5, hm5, hB5, hb5⟩
      have g5 : Below w.heap.size w w5 := hS2.trans (hb5.mono hS2.size)
      have HEQ := Lib.hid (equal_any _ _ _ _ (c - 8) c5 w5 (HBF.out.below g5) hB5)
      clear hb5 hB5
      rw [HD5.out]
      go_wp2_with fail
      refine hK.out _ _ g5 (fun _ => ?_)
      clear hK K
      refine wpAnyH_ready (rs := [5]) (by kernel_rfl) (by simp) ?_
      refine (AllReadyH.cons (o := { dst := some 20, op := Op.call { callee := Callee.value (Operand.func 29), args := #[Operand.tmp 16, Operand.tmp 19], argTypes := #[22, 22] }, type := 4, pos := "flags.go:55", after := #[{ on := 1, ground := Ground.data }, { on := 4, ground := Ground.data }, { on := 4, ground := Ground.chain }], guard := none }) rfl (fun K hK => ?_) AllReadyH.nil)
      go_simp
      rw [HP2.out, HD5.out] at HEQ
      refine HEQ.out.mono ?_
      rintro e w6 ⟨rfl, rfl⟩
      rw [HD2.out]
      go_wp2_with fail
      refine hK.out _ _ g5 (fun _ => ?_)
      clear hK K
      refine wpAnyH_take (i := 6) (oi := { dst := some 21, op := Op.unOp UnOp.not 4 (Operand.tmp 20), type := 4, pos := "flags.go:55", after := #[{ on := 5, ground := Ground.data }], guard := none }) (v := ?ve23) rfl (by kernel_rfl) (by kernel_rfl) (by kernel_rfl) (fun _ _ _ h => h) (Or.inl ⟨by rfl, ?ye23⟩) g5 ?_
      case ye23 =>
        intro w hSw
        go_simp; all_goals (with_reducible rfl)
      simp only [Act.put, List.setIfInBounds_toArray, List.set_cons_zero, List.set_cons_succ]
      refine wpAnyH_take (i := 7) (oi := { dst := some 14, op := Op.assign (Operand.tmp 21), type := 4, pos := "flags.go:55", after := #[{ on := 6, ground := Ground.data }, { on := 5, ground := Ground.chain }], guard := none }) (v := ?ve24) rfl (by kernel_rfl) (by kernel_rfl) (by kernel_rfl) (fun _ _ _ h => h) (Or.inl ⟨by rfl, ?ye24⟩) g5 ?_
      case ye24 =>
        intro w hSw
        go_simp; all_goals (with_reducible rfl)
      simp only [Act.put, List.setIfInBounds_toArray, List.set_cons_zero, List.set_cons_succ]
      refine wpAnyH_done (by kernel_rfl) ?_ _
      go_wp2_with fail
      refine (HRF.out w5 (by have := HBS.out.below g5; rw [HPT.out] at this; exact this)).mono ?_
      rintro e w7 ⟨rfl, hb7⟩
      go_wp2_with fail
      go_ret2
      exact ⟨rfl, g5.trans (hb7.mono g5.size)⟩
end Go.Proofs.YtibkhajhmncgkaaDoor
