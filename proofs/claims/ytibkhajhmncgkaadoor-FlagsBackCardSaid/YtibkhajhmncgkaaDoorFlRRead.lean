/- The walk over the reference's ReadHead. -/
import Derived.Test.YtibkhajhmncgkaaDoorFlReadF
namespace Go.Proofs.YtibkhajhmncgkaaDoor
open Go.RowKit

set_option maxRecDepth 100000 in
set_option maxHeartbeats 2000000 in
theorem rreadHead_any (A : Option Addr) (l : List UInt8) (c : Nat) (w : World) (hB : Bytes w A l) (hc : l.length ≤ c) (hm : c ≤ 9223372036854775807) (hn : l.length ≤ 100000000) :
    Calls Tryd.prog 17 #[.slice A l.length c] w fun e w' => e = .returned (.tuple #[.int .i64 (readHeadR l).1, .int .i64 (readHeadR l).2]) ∧ Below w.heap.size w w' := by
  by_cases h12 : l.length < 12
  · have hr : readHeadR l = (0, 2) := by unfold readHeadR; rw [if_pos h12]
    rw [hr]
    have hi : (l.length : Int) < 12 := by omega
    clear hr h12
    go_enter Tryd.func17, Tryd.ntmps17
    go_wp2_with fail
    go_ret2
    exact ⟨rfl, Below.refl _ _⟩
  obtain ⟨bb, off, rfl, hbl, hcl⟩ := hB.addr (by omega)
  have hBM := hB.part 0 6
  have hBF := hB.part 8 4
  have hBS := hB.part 6 2
  have HP1 : Hid ((part l 0 6).length = 6) := Lib.hid (part_length _ _ _ (by omega))
  have HP2 : Hid ((part l 8 4).length = 4) := Lib.hid (part_length _ _ _ (by omega))
  have HP3 : Hid ((part l 6 2).length = 2) := Lib.hid (part_length _ _ _ (by omega))
  have hli : (12 : Int) ≤ (l.length : Int) := by omega
  have hci : (12 : Int) ≤ (c : Int) := by omega
  have hcl2 : (l.length : Int) ≤ (c : Int) := by omega
  have hcm : (c : Int) ≤ 9223372036854775807 := by omega
  have HK : Hid (12 ≤ c ∧ c ≤ 9223372036854775807 ∧ 12 ≤ l.length) := Lib.hid ⟨by omega, by omega, by omega⟩
  have hrr : readHeadR l = if (part l 0 6 == magicH) = false then (0, 3) else if (part l 8 4 == sumB 1 (part l 6 2)) = false then (0, 4) else flagsR (l.getD 6 0) (l.getD 7 0) := by unfold readHeadR; rw [if_neg h12]
  have HPT := Lib.hid (part_two l 6 (by omega))
  have HCS := Lib.hid (fun w' (hb : Bytes w' (some ⟨bb, off + 6, none⟩) (part l 6 2)) => rchk_any 1 (some ⟨bb, off + 6, none⟩) (part l 6 2) (c - 6) w' hb (by rw [HP3.out]; omega))
  rw [HP3.out] at HCS
  have HD5 : Hid ((sumB 1 (part l 6 2)).length = 4) := Lib.hid (sum1_length _)
  rw [Nat.add_zero] at hBM
  have HBF := Lib.hid hBF
  have HBS := Lib.hid hBS
  have km := fun (w' : World) (h : Below w.heap.size w w') => run_str (hBM.below h) c
  rw [HP1.out] at km
  have KM := Lib.hid km
  clear km
  have HB8 := Lib.hid (hB.part 6 2)
  generalize sumB 1 (part l 6 2) = SM at *
  generalize part l 0 6 = P1 at *
  generalize part l 8 4 = P2 at *
  clear hB hcl hBF hBS h12 hc hm hn
  have kw := KM.out w (Below.refl _ _)
  cases h1 : (P1 == magicH) with
  | false =>
    have hr : readHeadR l = (0, 3) := by rw [hrr, if_pos h1]
    rw [hr]
    have h1' : (P1 == [253, 55, 122, 88, 90, 0]) = false := h1
    have h1n : ¬ P1 = [253, 55, 122, 88, 90, 0] := by simpa using h1'
    clear hr hrr h1
    go_enter Tryd.func17, Tryd.ntmps17
    go_wp2_with fail
    go_ret2
    exact ⟨rfl, Below.refl _ _⟩
  | true =>
    rw [if_neg (by rw [h1]; simp)] at hrr
    have h1' : (P1 == [253, 55, 122, 88, 90, 0]) = true := h1
    have h1e : P1 = [253, 55, 122, 88, 90, 0] := by simpa using h1'
    have hdr : Below w.heap.size w w.drew := below_drew w
    clear h1 h1'
    subst h1e
    cases h2 : (P2 == SM) with
    | false =>
      have hr : readHeadR l = (0, 4) := by rw [hrr, if_pos h2]
      rw [hr]
      have hne : ¬ SM = P2 := fun h => by rw [h] at h2; simp at h2
      have hnb : (SM == P2) = false := by simpa using hne
      clear hr hrr h2
      go_enter Tryd.func17, Tryd.ntmps17
      go_wp2_with fail
      refine wp_region_held_drew (S := fun w' => Below w.heap.size w w') (by kernel_rfl) hdr (fun hS => ?_)
      refine wpAnyH_take (i := 0) (oi := { dst := some 11, op := Op.move (Operand.tmp 0), type := 22, pos := "ref.go:84", after := #[], guard := none }) (v := ?vrrb82) rfl (by kernel_rfl) (by kernel_rfl) (by kernel_rfl) (fun _ _ _ h => h) (Or.inl ⟨by rfl, ?yrrb82⟩) hS ?_
      case yrrb82 =>
        intro w hSw
        go_simp; all_goals (with_reducible rfl)
      simp only [Act.put, List.setIfInBounds_toArray, List.set_cons_zero, List.set_cons_succ]
      refine wpAnyH_take (i := 1) (oi := { dst := some 12, op := Op.slice 22 (Operand.tmp 11) (some (Operand.const (Value.int IntKind.i64 6))) (some (Operand.const (Value.int IntKind.i64 8))) none, type := 22, pos := "ref.go:84", after := #[{ on := 0, ground := Ground.data }], guard := none }) (v := ?vrrb83) rfl (by kernel_rfl) (by kernel_rfl) (by kernel_rfl) (fun _ _ _ h => h) (Or.inl ⟨by rfl, ?yrrb83⟩) hS ?_
      case yrrb83 =>
        intro w hSw
        have i2 : (2 : Int) ≤ (c : Int) := by omega
        have i4 : (4 : Int) ≤ (c : Int) := by omega
        have i6 : (6 : Int) ≤ (c : Int) := by omega
        have i8 : (8 : Int) ≤ (c : Int) := by omega
        have i10 : (10 : Int) ≤ (c : Int) := by omega
        have n2 : ¬ c = 2 := by have := HK.out; omega
        have n4 : ¬ c = 4 := by have := HK.out; omega
        have n6 : ¬ c = 6 := by have := HK.out; omega
        have n8 : ¬ c = 8 := by have := HK.out; omega
        have n10 : ¬ c = 10 := by have := HK.out; omega
        go_simp; all_goals (with_reducible rfl)
      simp only [Act.put, List.setIfInBounds_toArray, List.set_cons_zero, List.set_cons_succ]
      refine wpAnyH_take (i := 4) (oi := { dst := some 15, op := Op.move (Operand.tmp 0), type := 22, pos := "ref.go:84", after := #[], guard := none }) (v := ?vrrb84) rfl (by kernel_rfl) (by kernel_rfl) (by kernel_rfl) (fun _ _ _ h => h) (Or.inl ⟨by rfl, ?yrrb84⟩) hS ?_
      case yrrb84 =>
        intro w hSw
        go_simp; all_goals (with_reducible rfl)
      simp only [Act.put, List.setIfInBounds_toArray, List.set_cons_zero, List.set_cons_succ]
      refine wpAnyH_take (i := 5) (oi := { dst := some 16, op := Op.slice 22 (Operand.tmp 15) (some (Operand.const (Value.int IntKind.i64 8))) (some (Operand.const (Value.int IntKind.i64 12))) none, type := 22, pos := "ref.go:84", after := #[{ on := 4, ground := Ground.data }], guard := none }) (v := ?vrrb85) rfl (by kernel_rfl) (by kernel_rfl) (by kernel_rfl) (fun _ _ _ h => h) (Or.inl ⟨by rfl, ?yrrb85⟩) hS ?_
      case yrrb85 =>
        intro w hSw
        have i2 : (2 : Int) ≤ (c : Int) := by omega
        have i4 : (4 : Int) ≤ (c : Int) := by omega
        have i6 : (6 : Int) ≤ (c : Int) := by omega
        have i8 : (8 : Int) ≤ (c : Int) := by omega
        have i10 : (10 : Int) ≤ (c : Int) := by omega
        have n2 : ¬ c = 2 := by have := HK.out; omega
        have n4 : ¬ c = 4 := by have := HK.out; omega
        have n6 : ¬ c = 6 := by have := HK.out; omega
        have n8 : ¬ c = 8 := by have := HK.out; omega
        have n10 : ¬ c = 10 := by have := HK.out; omega
        go_simp; all_goals (with_reducible rfl)
      simp only [Act.put, List.setIfInBounds_toArray, List.set_cons_zero, List.set_cons_succ]
      refine wpAnyH_take (i := 6) (oi := { dst := some 17, op := Op.convert 22 9 (Operand.tmp 16), type := 9, pos := "ref.go:84", after := #[{ on := 5, ground := Ground.data }], guard := none }) (v := ?vrrb86) rfl (by kernel_rfl) (by kernel_rfl) (by kernel_rfl) (fun _ _ _ h => h) (Or.inl ⟨by rfl, ?yrrb86⟩) hS ?_
      case yrrb86 =>
        intro w hSw
        have k := run_str (HBF.out.below hSw) (c - 8)
        rw [HP2.out] at k
        go_simp; all_goals (with_reducible rfl)
      simp only [Act.put, List.setIfInBounds_toArray, List.set_cons_zero, List.set_cons_succ]
      refine wpAnyH_ready (rs := [2]) (by kernel_rfl) (by simp) ?_
      refine (AllReadyH.cons (o := { dst := some 13, op := Op.call { callee := Callee.value (Operand.func 13), args := #[Operand.const (Value.int IntKind.i64 1), Operand.tmp 12], argTypes := #[3, 22] }, type := 22, pos := "ref.go:84", after := #[{ on := 1, ground := Ground.data }], guard := none }) rfl (fun K hK => ?_) AllReadyH.nil)
      go_simp
      refine (HCS.out _ (HBS.out.below hdr)).mono ?_
      rintro e w5 ⟨A5, c5, rfl, hc5, hm5, hB5, hb5⟩
      have g5 : Below w.heap.size w w5 := hdr.trans (hb5.mono hdr.size)
      have k5 := run_str hB5 c5
      rw [HD5.out] at k5
      clear hb5 hB5
      rw [HD5.out]
      go_wp2_with fail
      refine hK.out _ _ g5 (fun _ => ?_)
      clear hK K
      refine wpAnyH_ready (rs := [3]) (by kernel_rfl) (by simp) ?_
      refine (AllReadyH.cons (o := { dst := some 14, op := Op.convert 22 9 (Operand.tmp 13), type := 9, pos := "ref.go:84", after := #[{ on := 2, ground := Ground.data }], guard := none }) rfl (fun K hK => ?_) AllReadyH.nil)
      go_simp
      refine hK.out _ _ g5 (fun _ => ?_)
      clear hK K
      refine wpAnyH_ready (rs := [7]) (by kernel_rfl) (by simp) ?_
      refine (AllReadyH.cons (o := { dst := some 18, op := Op.binOp BinOp.neq 9 (Operand.tmp 14) (Operand.tmp 17) 9, type := 4, pos := "ref.go:84", after := #[{ on := 3, ground := Ground.data }, { on := 6, ground := Ground.data }], guard := none }) rfl (fun K hK => ?_) AllReadyH.nil)
      go_simp
      refine hK.out _ _ g5 (fun _ => ?_)
      clear hK K
      refine wpAnyH_done (by kernel_rfl) ?_ _
      go_wp2_with fail
      go_ret2
      exact ⟨rfl, g5⟩
    | true =>
      rw [if_neg (by rw [h2]; simp)] at hrr
      have hne : SM = P2 := by have : P2 = SM := by simpa using h2
                               exact this.symm
      have hnb : (P2 == P2) = true := by simp
      subst hne
      clear h2
      have HRF := Lib.hid (fun w' (h : Bytes w' (some ⟨bb, off + 6, none⟩) [l.getD 6 0, l.getD 7 0]) => rflags_any (some ⟨bb, off + 6, none⟩) (l.getD 6 0) (l.getD 7 0) (c - 6) w' h)
      generalize l.getD 6 0 = x at *
      generalize l.getD 7 0 = y at *
      generalize flagsR x y = R at *
      rw [hrr]
      clear hrr
      go_enter Tryd.func17, Tryd.ntmps17
      go_wp2_with fail
      refine wp_region_held_drew (S := fun w' => Below w.heap.size w w') (by kernel_rfl) hdr (fun hS => ?_)
      refine wpAnyH_take (i := 0) (oi := { dst := some 11, op := Op.move (Operand.tmp 0), type := 22, pos := "ref.go:84", after := #[], guard := none }) (v := ?vrrd87) rfl (by kernel_rfl) (by kernel_rfl) (by kernel_rfl) (fun _ _ _ h => h) (Or.inl ⟨by rfl, ?yrrd87⟩) hS ?_
      case yrrd87 =>
        intro w hSw
        go_simp; all_goals (with_reducible rfl)
      simp only [Act.put, List.setIfInBounds_toArray, List.set_cons_zero, List.set_cons_succ]
      refine wpAnyH_take (i := 1) (oi := { dst := some 12, op := Op.slice 22 (Operand.tmp 11) (some (Operand.const (Value.int IntKind.i64 6))) (some (Operand.const (Value.int IntKind.i64 8))) none, type := 22, pos := "ref.go:84", after := #[{ on := 0, ground := Ground.data }], guard := none }) (v := ?vrrd88) rfl (by kernel_rfl) (by kernel_rfl) (by kernel_rfl) (fun _ _ _ h => h) (Or.inl ⟨by rfl, ?yrrd88⟩) hS ?_
      case yrrd88 =>
        intro w hSw
        have i2 : (2 : Int) ≤ (c : Int) := by omega
        have i4 : (4 : Int) ≤ (c : Int) := by omega
        have i6 : (6 : Int) ≤ (c : Int) := by omega
        have i8 : (8 : Int) ≤ (c : Int) := by omega
        have i10 : (10 : Int) ≤ (c : Int) := by omega
        have n2 : ¬ c = 2 := by have := HK.out; omega
        have n4 : ¬ c = 4 := by have := HK.out; omega
        have n6 : ¬ c = 6 := by have := HK.out; omega
        have n8 : ¬ c = 8 := by have := HK.out; omega
        have n10 : ¬ c = 10 := by have := HK.out; omega
        go_simp; all_goals (with_reducible rfl)
      simp only [Act.put, List.setIfInBounds_toArray, List.set_cons_zero, List.set_cons_succ]
      refine wpAnyH_take (i := 4) (oi := { dst := some 15, op := Op.move (Operand.tmp 0), type := 22, pos := "ref.go:84", after := #[], guard := none }) (v := ?vrrd89) rfl (by kernel_rfl) (by kernel_rfl) (by kernel_rfl) (fun _ _ _ h => h) (Or.inl ⟨by rfl, ?yrrd89⟩) hS ?_
      case yrrd89 =>
        intro w hSw
        go_simp; all_goals (with_reducible rfl)
      simp only [Act.put, List.setIfInBounds_toArray, List.set_cons_zero, List.set_cons_succ]
      refine wpAnyH_take (i := 5) (oi := { dst := some 16, op := Op.slice 22 (Operand.tmp 15) (some (Operand.const (Value.int IntKind.i64 8))) (some (Operand.const (Value.int IntKind.i64 12))) none, type := 22, pos := "ref.go:84", after := #[{ on := 4, ground := Ground.data }], guard := none }) (v := ?vrrd90) rfl (by kernel_rfl) (by kernel_rfl) (by kernel_rfl) (fun _ _ _ h => h) (Or.inl ⟨by rfl, ?yrrd90⟩) hS ?_
      case yrrd90 =>
        intro w hSw
        have i2 : (2 : Int) ≤ (c : Int) := by omega
        have i4 : (4 : Int) ≤ (c : Int) := by omega
        have i6 : (6 : Int) ≤ (c : Int) := by omega
        have i8 : (8 : Int) ≤ (c : Int) := by omega
        have i10 : (10 : Int) ≤ (c : Int) := by omega
        have n2 : ¬ c = 2 := by have := HK.out; omega
        have n4 : ¬ c = 4 := by have := HK.out; omega
        have n6 : ¬ c = 6 := by have := HK.out; omega
        have n8 : ¬ c = 8 := by have := HK.out; omega
        have n10 : ¬ c = 10 := by have := HK.out; omega
        go_simp; all_goals (with_reducible rfl)
      simp only [Act.put, List.setIfInBounds_toArray, List.set_cons_zero, List.set_cons_succ]
      refine wpAnyH_take (i := 6) (oi := { dst := some 17, op := Op.convert 22 9 (Operand.tmp 16), type := 9, pos := "ref.go:84", after := #[{ on := 5, ground := Ground.data }], guard := none }) (v := ?vrrd91) rfl (by kernel_rfl) (by kernel_rfl) (by kernel_rfl) (fun _ _ _ h => h) (Or.inl ⟨by rfl, ?yrrd91⟩) hS ?_
      case yrrd91 =>
        intro w hSw
        have k := run_str (HBF.out.below hSw) (c - 8)
        rw [HP2.out] at k
        go_simp; all_goals (with_reducible rfl)
      simp only [Act.put, List.setIfInBounds_toArray, List.set_cons_zero, List.set_cons_succ]
      refine wpAnyH_ready (rs := [2]) (by kernel_rfl) (by simp) ?_
      refine (AllReadyH.cons (o := { dst := some 13, op := Op.call { callee := Callee.value (Operand.func 13), args := #[Operand.const (Value.int IntKind.i64 1), Operand.tmp 12], argTypes := #[3, 22] }, type := 22, pos := "ref.go:84", after := #[{ on := 1, ground := Ground.data }], guard := none }) rfl (fun K hK => ?_) AllReadyH.nil)
      go_simp
      refine (HCS.out _ (HBS.out.below hdr)).mono ?_
      rintro e w5 ⟨A5, c5, rfl, hc5, hm5, hB5, hb5⟩
      have g5 : Below w.heap.size w w5 := hdr.trans (hb5.mono hdr.size)
      have k5 := run_str hB5 c5
      rw [HD5.out] at k5
      clear hb5 hB5
      rw [HD5.out]
      go_wp2_with fail
      refine hK.out _ _ g5 (fun _ => ?_)
      clear hK K
      refine wpAnyH_ready (rs := [3]) (by kernel_rfl) (by simp) ?_
      refine (AllReadyH.cons (o := { dst := some 14, op := Op.convert 22 9 (Operand.tmp 13), type := 9, pos := "ref.go:84", after := #[{ on := 2, ground := Ground.data }], guard := none }) rfl (fun K hK => ?_) AllReadyH.nil)
      go_simp
      refine hK.out _ _ g5 (fun _ => ?_)
      clear hK K
      refine wpAnyH_ready (rs := [7]) (by kernel_rfl) (by simp) ?_
      refine (AllReadyH.cons (o := { dst := some 18, op := Op.binOp BinOp.neq 9 (Operand.tmp 14) (Operand.tmp 17) 9, type := 4, pos := "ref.go:84", after := #[{ on := 3, ground := Ground.data }, { on := 6, ground := Ground.data }], guard := none }) rfl (fun K hK => ?_) AllReadyH.nil)
      go_simp
      refine hK.out _ _ g5 (fun _ => ?_)
      clear hK K
      refine wpAnyH_done (by kernel_rfl) ?_ _
      go_wp2_with fail
      refine (HRF.out w5 (by have := HB8.out.below g5; rw [HPT.out] at this; exact this)).mono ?_
      rintro e w7 ⟨rfl, rfl⟩
      go_wp2_with fail
      go_ret2
      exact ⟨rfl, g5⟩
end Go.Proofs.YtibkhajhmncgkaaDoor
