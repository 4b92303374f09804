/- The walk over the reference's ReadFoot. -/
import Derived.Test.YtibkhajhmncgkaaDoorFlReadF
namespace Go.Proofs.YtibkhajhmncgkaaDoor
open Go.RowKit

set_option maxRecDepth 100000 in
set_option maxHeartbeats 2000000 in
theorem sreadFoot_any (A : Option Addr) (l : List UInt8) (c : Nat) (w : World) (hB : Bytes w A l) (hc : l.length ≤ c) (hm : c ≤ 9223372036854775807) (hn : l.length ≤ 100000000) :
    Calls Tryd.prog 19 #[.slice A l.length c] w fun e w' => e = .returned (.tuple #[.int .i64 (readFootR l).1, .int .i64 (readFootR l).2.1, .int .i64 (readFootR l).2.2]) ∧ Below w.heap.size w w' := by
  by_cases h12 : l.length < 12
  · have hr : readFootR l = (0, 0, 2) := by unfold readFootR; rw [if_pos h12]
    rw [hr]
    have hi : (l.length : Int) < 12 := by omega
    clear hr h12
    go_enter Tryd.func19, Tryd.ntmps19
    go_wp2_with fail
    go_ret3
    exact ⟨rfl, Below.refl _ _⟩
  obtain ⟨bb, off, rfl, hbl, hcl⟩ := hB.addr (by omega)
  have hBM := hB.part 10 2
  have hBF := hB.part 0 4
  have hBS := hB.part 4 6
  have HP1 : Hid ((part l 10 2).length = 2) := Lib.hid (part_length _ _ _ (by omega))
  have HP2 : Hid ((part l 0 4).length = 4) := Lib.hid (part_length _ _ _ (by omega))
  have HP3 : Hid ((part l 4 6).length = 6) := Lib.hid (part_length _ _ _ (by omega))
  have hli : (12 : Int) ≤ (l.length : Int) := by omega
  have hci : (12 : Int) ≤ (c : Int) := by omega
  have hcl2 : (l.length : Int) ≤ (c : Int) := by omega
  have hcm : (c : Int) ≤ 9223372036854775807 := by omega
  have HK : Hid (12 ≤ c ∧ c ≤ 9223372036854775807 ∧ 12 ≤ l.length) := Lib.hid ⟨by omega, by omega, by omega⟩
  have hrr : readFootR l = if (part l 10 2 == [89, 90]) = false then (0, 0, 3) else if (part l 0 4 == sumB 1 (part l 4 6)) = false then (0, 0, 4) else if (flagsR (l.getD 8 0) (l.getD 9 0)).2 ≠ 0 then (0, 0, (flagsR (l.getD 8 0) (l.getD 9 0)).2) else ((flagsR (l.getD 8 0) (l.getD 9 0)).1, 4 * (numB (part l 4 4) : Int) + 4, 0) := by unfold readFootR; rw [if_neg h12]
  have HPT := Lib.hid (part_two l 8 (by omega))
  have HCS := Lib.hid (fun w' (hb : Bytes w' (some ⟨bb, off + 4, none⟩) (part l 4 6)) => rchk_any 1 (some ⟨bb, off + 4, none⟩) (part l 4 6) (c - 4) w' hb (by rw [HP3.out]; omega))
  rw [HP3.out] at HCS
  have HD5 : Hid ((sumB 1 (part l 4 6)).length = 4) := Lib.hid (sum1_length _)
  rw [Nat.add_zero] at hBF
  have HBF := Lib.hid hBF
  have HBS := Lib.hid hBS
  have km := fun (w' : World) (h : Below w.heap.size w w') => run_str (hBM.below h) (c - 10)
  rw [HP1.out] at km
  have KM := Lib.hid km
  clear km
  have HB4 := Lib.hid (hB.part 4 4)
  have HP4 : Hid ((part l 4 4).length = 4) := Lib.hid (part_length _ _ _ (by omega))
  have HB8 := Lib.hid (hB.part 8 2)
  generalize sumB 1 (part l 4 6) = SM at *
  generalize part l 10 2 = P1 at *
  generalize part l 0 4 = P2 at *
  clear hB hcl hBF hBS h12 hc hm hn
  have kw := KM.out w (Below.refl _ _)
  cases h1 : (P1 == [89, 90]) with
  | false =>
    have hr : readFootR l = (0, 0, 3) := by rw [hrr, if_pos h1]
    rw [hr]
    have h1' : (P1 == [89, 90]) = false := h1
    have h1n : ¬ P1 = [89, 90] := by simpa using h1'
    clear hr hrr h1
    go_enter Tryd.func19, Tryd.ntmps19
    go_wp2_with fail
    go_ret3
    exact ⟨rfl, Below.refl _ _⟩
  | true =>
    rw [if_neg (by rw [h1]; simp)] at hrr
    have h1' : (P1 == [89, 90]) = true := h1
    have h1e : P1 = [89, 90] := by simpa using h1'
    have hdr : Below w.heap.size w w.drew := below_drew w
    clear h1 h1'
    subst h1e
    cases h2 : (P2 == SM) with
    | false =>
      have hr : readFootR l = (0, 0, 4) := by rw [hrr, if_pos h2]
      rw [hr]
      have hne : ¬ SM = P2 := fun h => by rw [h] at h2; simp at h2
      have hnb : (SM == P2) = false := by simpa using hne
      clear hr hrr h2
      go_enter Tryd.func19, Tryd.ntmps19
      go_wp2_with fail
      refine wp_region_held_drew (S := fun w' => Below w.heap.size w w') (by kernel_rfl) hdr (fun hS => ?_)
      refine wpAnyH_take (i := 0) (oi := { dst := some 14, op := Op.move (Operand.tmp 0), type := 22, pos := "ref.go:98", after := #[], guard := none }) (v := ?vsrb92) rfl (by kernel_rfl) (by kernel_rfl) (by kernel_rfl) (fun _ _ _ h => h) (Or.inl ⟨by rfl, ?ysrb92⟩) hS ?_
      case ysrb92 =>
        intro w hSw
        go_simp; all_goals (with_reducible rfl)
      simp only [Act.put, List.setIfInBounds_toArray, List.set_cons_zero, List.set_cons_succ]
      refine wpAnyH_take (i := 1) (oi := { dst := some 15, op := Op.slice 22 (Operand.tmp 14) (some (Operand.const (Value.int IntKind.i64 4))) (some (Operand.const (Value.int IntKind.i64 10))) none, type := 22, pos := "ref.go:98", after := #[{ on := 0, ground := Ground.data }], guard := none }) (v := ?vsrb93) rfl (by kernel_rfl) (by kernel_rfl) (by kernel_rfl) (fun _ _ _ h => h) (Or.inl ⟨by rfl, ?ysrb93⟩) hS ?_
      case ysrb93 =>
        intro w hSw
        have i2 : (2 : Int) ≤ (c : Int) := by omega
        have i4 : (4 : Int) ≤ (c : Int) := by omega
        have i6 : (6 : Int) ≤ (c : Int) := by omega
        have i8 : (8 : Int) ≤ (c : Int) := by omega
        have i10 : (10 : Int) ≤ (c : Int) := by omega
        have n2 : ¬ c = 2 := by have := HK.out; omega
        have n4 : ¬ c = 4 := by have := HK.out; omega
        have n6 : ¬ c = 6 := by have := HK.out; omega
        have n8 : ¬ c = 8 := by have := HK.out; omega
        have n10 : ¬ c = 10 := by have := HK.out; omega
        go_simp; all_goals (with_reducible rfl)
      simp only [Act.put, List.setIfInBounds_toArray, List.set_cons_zero, List.set_cons_succ]
      refine wpAnyH_take (i := 4) (oi := { dst := some 18, op := Op.move (Operand.tmp 0), type := 22, pos := "ref.go:98", after := #[], guard := none }) (v := ?vsrb94) rfl (by kernel_rfl) (by kernel_rfl) (by kernel_rfl) (fun _ _ _ h => h) (Or.inl ⟨by rfl, ?ysrb94⟩) hS ?_
      case ysrb94 =>
        intro w hSw
        go_simp; all_goals (with_reducible rfl)
      simp only [Act.put, List.setIfInBounds_toArray, List.set_cons_zero, List.set_cons_succ]
      refine wpAnyH_take (i := 5) (oi := { dst := some 19, op := Op.slice 22 (Operand.tmp 18) none (some (Operand.const (Value.int IntKind.i64 4))) none, type := 22, pos := "ref.go:98", after := #[{ on := 4, ground := Ground.data }], guard := none }) (v := ?vsrb95) rfl (by kernel_rfl) (by kernel_rfl) (by kernel_rfl) (fun _ _ _ h => h) (Or.inl ⟨by rfl, ?ysrb95⟩) hS ?_
      case ysrb95 =>
        intro w hSw
        have i2 : (2 : Int) ≤ (c : Int) := by omega
        have i4 : (4 : Int) ≤ (c : Int) := by omega
        have i6 : (6 : Int) ≤ (c : Int) := by omega
        have i8 : (8 : Int) ≤ (c : Int) := by omega
        have i10 : (10 : Int) ≤ (c : Int) := by omega
        have n2 : ¬ c = 2 := by have := HK.out; omega
        have n4 : ¬ c = 4 := by have := HK.out; omega
        have n6 : ¬ c = 6 := by have := HK.out; omega
        have n8 : ¬ c = 8 := by have := HK.out; omega
        have n10 : ¬ c = 10 := by have := HK.out; omega
        go_simp; all_goals (with_reducible rfl)
      simp only [Act.put, List.setIfInBounds_toArray, List.set_cons_zero, List.set_cons_succ]
      refine wpAnyH_take (i := 6) (oi := { dst := some 20, op := Op.convert 22 9 (Operand.tmp 19), type := 9, pos := "ref.go:98", after := #[{ on := 5, ground := Ground.data }], guard := none }) (v := ?vsrb96) rfl (by kernel_rfl) (by kernel_rfl) (by kernel_rfl) (fun _ _ _ h => h) (Or.inl ⟨by rfl, ?ysrb96⟩) hS ?_
      case ysrb96 =>
        intro w hSw
        have k := run_str (HBF.out.below hSw) c
        rw [HP2.out] at k
        go_simp; all_goals (with_reducible rfl)
      simp only [Act.put, List.setIfInBounds_toArray, List.set_cons_zero, List.set_cons_succ]
      refine wpAnyH_ready (rs := [2]) (by kernel_rfl) (by simp) ?_
      refine (AllReadyH.cons (o := { dst := some 16, op := Op.call { callee := Callee.value (Operand.func 13), args := #[Operand.const (Value.int IntKind.i64 1), Operand.tmp 15], argTypes := #[3, 22] }, type := 22, pos := "ref.go:98", after := #[{ on := 1, ground := Ground.data }], guard := none }) rfl (fun K hK => ?_) AllReadyH.nil)
      go_simp
      refine (HCS.out _ (HBS.out.below hdr)).mono ?_
      rintro e w5 ⟨A5, c5, rfl, hc5, hm5, hB5, hb5⟩
      have g5 : Below w.heap.size w w5 := hdr.trans (hb5.mono hdr.size)
      have k5 := run_str hB5 c5
      rw [HD5.out] at k5
      clear hb5 hB5
      rw [HD5.out]
      go_wp2_with fail
      refine hK.out _ _ g5 (fun _ => ?_)
      clear hK K
      refine wpAnyH_ready (rs := [3]) (by kernel_rfl) (by simp) ?_
      refine (AllReadyH.cons (o := { dst := some 17, op := Op.convert 22 9 (Operand.tmp 16), type := 9, pos := "ref.go:98", after := #[{ on := 2, ground := Ground.data }], guard := none }) rfl (fun K hK => ?_) AllReadyH.nil)
      go_simp
      refine hK.out _ _ g5 (fun _ => ?_)
      clear hK K
      refine wpAnyH_ready (rs := [7]) (by kernel_rfl) (by simp) ?_
      refine (AllReadyH.cons (o := { dst := some 21, op := Op.binOp BinOp.neq 9 (Operand.tmp 17) (Operand.tmp 20) 9, type := 4, pos := "ref.go:98", after := #[{ on := 3, ground := Ground.data }, { on := 6, ground := Ground.data }], guard := none }) rfl (fun K hK => ?_) AllReadyH.nil)
      go_simp
      refine hK.out _ _ g5 (fun _ => ?_)
      clear hK K
      refine wpAnyH_done (by kernel_rfl) ?_ _
      go_wp2_with fail
      go_ret3
      exact ⟨rfl, g5⟩
    | true =>
      rw [if_neg (by rw [h2]; simp)] at hrr
      have hne : SM = P2 := by have : P2 = SM := by simpa using h2
                               exact this.symm
      have hnb : (P2 == P2) = true := by simp
      subst hne
      clear h2
      have HRF := Lib.hid (fun w' (h : Bytes w' (some ⟨bb, off + 8, none⟩) [l.getD 8 0, l.getD 9 0]) => rflags_any (some ⟨bb, off + 8, none⟩) (l.getD 8 0) (l.getD 9 0) (c - 8) w' h)
      generalize l.getD 8 0 = x at *
      generalize l.getD 9 0 = y at *
      generalize flagsR x y = R at *
      have HNU := Lib.hid (fun w' (h : Bytes w' (some ⟨bb, off + 4, none⟩) (part l 4 4)) => number_any (some ⟨bb, off + 4, none⟩) (part l 4 4) (c - 4) w' h (by rw [HP4.out]; omega))
      rw [HP4.out] at HNU
      have HNB : Hid (numB (part l 4 4) < 4294967296) := Lib.hid (by have := numB_lt (part l 4 4); rw [HP4.out] at this; have h : (256 : Nat) ^ 4 = 4294967296 := by decide
                                                                     omega)
      generalize part l 4 4 = P4 at *
      generalize numB P4 = N at *
      by_cases h3 : R.2 = 0
      · have hr : readFootR l = (R.1, 4 * (N : Int) + 4, 0) := by rw [hrr, if_neg (fun h => h h3)]
        rw [hr]
        rw [h3] at HRF
        clear hr hrr h3
        go_enter Tryd.func19, Tryd.ntmps19
        go_wp2_with fail
        refine wp_region_held_drew (S := fun w' => Below w.heap.size w w') (by kernel_rfl) hdr (fun hS => ?_)
        refine wpAnyH_take (i := 0) (oi := { dst := some 14, op := Op.move (Operand.tmp 0), type := 22, pos := "ref.go:98", after := #[], guard := none }) (v := ?vsrd97) rfl (by kernel_rfl) (by kernel_rfl) (by kernel_rfl) (fun _ _ _ h => h) (Or.inl ⟨by rfl, ?ysrd97⟩) hS ?_
        case ysrd97 =>
          intro w hSw
          go_simp; all_goals (with_reducible rfl)
        simp only [Act.put, List.setIfInBounds_toArray, List.set_cons_zero, List.set_cons_succ]
        refine wpAnyH_take (i := 1) (oi := { dst := some 15, op := Op.slice 22 (Operand.tmp 14) (some (Operand.const (Value.int IntKind.i64 4))) (some (Operand.const (Value.int IntKind.i64 10))) none, type := 22, pos := "ref.go:98", after := #[{ on := 0, ground := Ground.data }], guard := none }) (v := ?vsrd98) rfl (by kernel_rfl) (by kernel_rfl) (by kernel_rfl) (fun _ _ _ h => h) (Or.inl ⟨by rfl, ?ysrd98⟩) hS ?_
        case ysrd98 =>
          intro w hSw
          have i2 : (2 : Int) ≤ (c : Int) := by omega
          have i4 : (4 : Int) ≤ (c : Int) := by omega
          have i6 : (6 : Int) ≤ (c : Int) := by omega
          have i8 : (8 : Int) ≤ (c : Int) := by omega
          have i10 : (10 : Int) ≤ (c : Int) := by omega
          have n2 : ¬ c = 2 := by have := HK.out; omega
          have n4 : ¬ c = 4 := by have := HK.out; omega
          have n6 : ¬ c = 6 := by have := HK.out; omega
          have n8 : ¬ c = 8 := by have := HK.out; omega
          have n10 : ¬ c = 10 := by have := HK.out; omega
          go_simp; all_goals (with_reducible rfl)
        simp only [Act.put, List.setIfInBounds_toArray, List.set_cons_zero, List.set_cons_succ]
        refine wpAnyH_take (i := 4) (oi := { dst := some 18, op := Op.move (Operand.tmp 0), type := 22, pos := "ref.go:98", after := #[], guard := none }) (v := ?vsrd99) rfl (by kernel_rfl) (by kernel_rfl) (by kernel_rfl) (fun _ _ _ h => h) (Or.inl ⟨by rfl, ?ysrd99⟩) hS ?_
        case ysrd99 =>
          intro w hSw
          go_simp; all_goals (with_reducible rfl)
        simp only [Act.put, List.setIfInBounds_toArray, List.set_cons_zero, List.set_cons_succ]
        refine wpAnyH_take (i := 5) (oi := { dst := some 19, op := Op.slice 22 (Operand.tmp 18) none (some (Operand.const (Value.int IntKind.i64 4))) none, type := 22, pos := "ref.go:98", after := #[{ on := 4, ground := Ground.data }], guard := none }) (v := ?vsrd100) rfl (by kernel_rfl) (by kernel_rfl) (by kernel_rfl) (fun _ _ _ h => h) (Or.inl ⟨by rfl, ?ysrd100⟩) hS ?_
        case ysrd100 =>
          intro w hSw
          have i2 : (2 : Int) ≤ (c : Int) := by omega
          have i4 : (4 : Int) ≤ (c : Int) := by omega
          have i6 : (6 : Int) ≤ (c : Int) := by omega
          have i8 : (8 : Int) ≤ (c : Int) := by omega
          have i10 : (10 : Int) ≤ (c : Int) := by omega
          have n2 : ¬ c = 2 := by have := HK.out; omega
          have n4 : ¬ c = 4 := by have := HK.out; omega
          have n6 : ¬ c = 6 := by have := HK.out; omega
          have n8 : ¬ c = 8 := by have := HK.out; omega
          have n10 : ¬ c = 10 := by have := HK.out; omega
          go_simp; all_goals (with_reducible rfl)
        simp only [Act.put, List.setIfInBounds_toArray, List.set_cons_zero, List.set_cons_succ]
        refine wpAnyH_take (i := 6) (oi := { dst := some 20, op := Op.convert 22 9 (Operand.tmp 19), type := 9, pos := "ref.go:98", after := #[{ on := 5, ground := Ground.data }], guard := none }) (v := ?vsrd101) rfl (by kernel_rfl) (by kernel_rfl) (by kernel_rfl) (fun _ _ _ h => h) (Or.inl ⟨by rfl, ?ysrd101⟩) hS ?_
        case ysrd101 =>
          intro w hSw
          have k := run_str (HBF.out.below hSw) c
          rw [HP2.out] at k
          go_simp; all_goals (with_reducible rfl)
        simp only [Act.put, List.setIfInBounds_toArray, List.set_cons_zero, List.set_cons_succ]
        refine wpAnyH_ready (rs := [2]) (by kernel_rfl) (by simp) ?_
        refine (AllReadyH.cons (o := { dst := some 16, op := Op.call { callee := Callee.value (Operand.func 13), args := #[Operand.const (Value.int IntKind.i64 1), Operand.tmp 15], argTypes := #[3, 22] }, type := 22, pos := "ref.go:98", after := #[{ on := 1, ground := Ground.data }], guard := none }) rfl (fun K hK => ?_) AllReadyH.nil)
        go_simp
        refine (HCS.out _ (HBS.out.below hdr)).mono ?_
        rintro e w5 ⟨A5, c5, rfl, hc5, hm5, hB5, hb5⟩
        have g5 : Below w.heap.size w w5 := hdr.trans (hb5.mono hdr.size)
        have k5 := run_str hB5 c5
        rw [HD5.out] at k5
        clear hb5 hB5
        rw [HD5.out]
        go_wp2_with fail
        refine hK.out _ _ g5 (fun _ => ?_)
        clear hK K
        refine wpAnyH_ready (rs := [3]) (by kernel_rfl) (by simp) ?_
        refine (AllReadyH.cons (o := { dst := some 17, op := Op.convert 22 9 (Operand.tmp 16), type := 9, pos := "ref.go:98", after := #[{ on := 2, ground := Ground.data }], guard := none }) rfl (fun K hK => ?_) AllReadyH.nil)
        go_simp
        refine hK.out _ _ g5 (fun _ => ?_)
        clear hK K
        refine wpAnyH_ready (rs := [7]) (by kernel_rfl) (by simp) ?_
        refine (AllReadyH.cons (o := { dst := some 21, op := Op.binOp BinOp.neq 9 (Operand.tmp 17) (Operand.tmp 20) 9, type := 4, pos := "ref.go:98", after := #[{ on := 3, ground := Ground.data }, { on := 6, ground := Ground.data }], guard := none }) rfl (fun K hK => ?_) AllReadyH.nil)
        go_simp
        refine hK.out _ _ g5 (fun _ => ?_)
        clear hK K
        refine wpAnyH_done (by kernel_rfl) ?_ _
        go_wp2_with fail
        refine (HRF.out w5 (by have := HB8.out.below g5; rw [HPT.out] at this; exact this)).mono ?_
        rintro e w7 ⟨rfl, rfl⟩
        have HNW := Lib.hid (HNU.out w5 (HB4.out.below g5))
        go_wp2_with fail
        refine HNW.out.mono ?_
        rintro e w8 ⟨rfl, rfl⟩
        have hNi : (N : Int) < 4294967296 := by have := HNB.out; omega
        have hN0 : (0 : Int) ≤ (N : Int) := by omega
        go_wp2_with fail
        go_ret3
        exact ⟨rfl, g5⟩
      · have hr : readFootR l = (0, 0, R.2) := by rw [hrr, if_pos h3]
        rw [hr]
        have h3b : (R.2 == 0) = false := by simpa using h3
        clear hr hrr h3
        go_enter Tryd.func19, Tryd.ntmps19
        go_wp2_with fail
        refine wp_region_held_drew (S := fun w' => Below w.heap.size w w') (by kernel_rfl) hdr (fun hS => ?_)
        refine wpAnyH_take (i := 0) (oi := { dst := some 14, op := Op.move (Operand.tmp 0), type := 22, pos := "ref.go:98", after := #[], guard := none }) (v := ?vsre102) rfl (by kernel_rfl) (by kernel_rfl) (by kernel_rfl) (fun _ _ _ h => h) (Or.inl ⟨by rfl, ?ysre102⟩) hS ?_
        case ysre102 =>
          intro w hSw
          go_simp; all_goals (with_reducible rfl)
        simp only [Act.put, List.setIfInBounds_toArray, List.set_cons_zero, List.set_cons_succ]
        refine wpAnyH_take (i := 1) (oi := { dst := some 15, op := Op.slice 22 (Operand.tmp 14) (some (Operand.const (Value.int IntKind.i64 4))) (some (Operand.const (Value.int IntKind.i64 10))) none, type := 22, pos := "ref.go:98", after := #[{ on := 0, ground := Ground.data }], guard := none }) (v := ?vsre103) rfl (by kernel_rfl) (by kernel_rfl) (by kernel_rfl) (fun _ _ _ h => h) (Or.inl ⟨by rfl, ?ysre103⟩) hS ?_
        case ysre103 =>
          intro w hSw
          have i2 : (2 : Int) ≤ (c : Int) := by omega
          have i4 : (4 : Int) ≤ (c : Int) := by omega
          have i6 : (6 : Int) ≤ (c : Int) := by omega
          have i8 : (8 : Int) ≤ (c : Int) := by omega
          have i10 : (10 : Int) ≤ (c : Int) := by omega
          have n2 : ¬ c = 2 := by have := HK.out; omega
          have n4 : ¬ c = 4 := by have := HK.out; omega
          have n6 : ¬ c = 6 := by have := HK.out; omega
          have n8 : ¬ c = 8 := by have := HK.out; omega
          have n10 : ¬ c = 10 := by have := HK.out; omega
          go_simp; all_goals (with_reducible rfl)
        simp only [Act.put, List.setIfInBounds_toArray, List.set_cons_zero, List.set_cons_succ]
        refine wpAnyH_take (i := 4) (oi := { dst := some 18, op := Op.move (Operand.tmp 0), type := 22, pos := "ref.go:98", after := #[], guard := none }) (v := ?vsre104) rfl (by kernel_rfl) (by kernel_rfl) (by kernel_rfl) (fun _ _ _ h => h) (Or.inl ⟨by rfl, ?ysre104⟩) hS ?_
        case ysre104 =>
          intro w hSw
          go_simp; all_goals (with_reducible rfl)
        simp only [Act.put, List.setIfInBounds_toArray, List.set_cons_zero, List.set_cons_succ]
        refine wpAnyH_take (i := 5) (oi := { dst := some 19, op := Op.slice 22 (Operand.tmp 18) none (some (Operand.const (Value.int IntKind.i64 4))) none, type := 22, pos := "ref.go:98", after := #[{ on := 4, ground := Ground.data }], guard := none }) (v := ?vsre105) rfl (by kernel_rfl) (by kernel_rfl) (by kernel_rfl) (fun _ _ _ h => h) (Or.inl ⟨by rfl, ?ysre105⟩) hS ?_
        case ysre105 =>
          intro w hSw
          have i2 : (2 : Int) ≤ (c : Int) := by omega
          have i4 : (4 : Int) ≤ (c : Int) := by omega
          have i6 : (6 : Int) ≤ (c : Int) := by omega
          have i8 : (8 : Int) ≤ (c : Int) := by omega
          have i10 : (10 : Int) ≤ (c : Int) := by omega
          have n2 : ¬ c = 2 := by have := HK.out; omega
          have n4 : ¬ c = 4 := by have := HK.out; omega
          have n6 : ¬ c = 6 := by have := HK.out; omega
          have n8 : ¬ c = 8 := by have := HK.out; omega
          have n10 : ¬ c = 10 := by have := HK.out; omega
          go_simp; all_goals (with_reducible rfl)
        simp only [Act.put, List.setIfInBounds_toArray, List.set_cons_zero, List.set_cons_succ]
        refine wpAnyH_take (i := 6) (oi := { dst := some 20, op := Op.convert 22 9 (Operand.tmp 19), type := 9, pos := "ref.go:98", after := #[{ on := 5, ground := Ground.data }], guard := none }) (v := ?vsre106) rfl (by kernel_rfl) (by kernel_rfl) (by kernel_rfl) (fun _ _ _ h => h) (Or.inl ⟨by rfl, ?ysre106⟩) hS ?_
        case ysre106 =>
          intro w hSw
          have k := run_str (HBF.out.below hSw) c
          rw [HP2.out] at k
          go_simp; all_goals (with_reducible rfl)
        simp only [Act.put, List.setIfInBounds_toArray, List.set_cons_zero, List.set_cons_succ]
        refine wpAnyH_ready (rs := [2]) (by kernel_rfl) (by simp) ?_
        refine (AllReadyH.cons (o := { dst := some 16, op := Op.call { callee := Callee.value (Operand.func 13), args := #[Operand.const (Value.int IntKind.i64 1), Operand.tmp 15], argTypes := #[3, 22] }, type := 22, pos := "ref.go:98", after := #[{ on := 1, ground := Ground.data }], guard := none }) rfl (fun K hK => ?_) AllReadyH.nil)
        go_simp
        refine (HCS.out _ (HBS.out.below hdr)).mono ?_
        rintro e w5 ⟨A5, c5, rfl, hc5, hm5, hB5, hb5⟩
        have g5 : Below w.heap.size w w5 := hdr.trans (hb5.mono hdr.size)
        have k5 := run_str hB5 c5
        rw [HD5.out] at k5
        clear hb5 hB5
        rw [HD5.out]
        go_wp2_with fail
        refine hK.out _ _ g5 (fun _ => ?_)
        clear hK K
        refine wpAnyH_ready (rs := [3]) (by kernel_rfl) (by simp) ?_
        refine (AllReadyH.cons (o := { dst := some 17, op := Op.convert 22 9 (Operand.tmp 16), type := 9, pos := "ref.go:98", after := #[{ on := 2, ground := Ground.data }], guard := none }) rfl (fun K hK => ?_) AllReadyH.nil)
        go_simp
        refine hK.out _ _ g5 (fun _ => ?_)
        clear hK K
        refine wpAnyH_ready (rs := [7]) (by kernel_rfl) (by simp) ?_
        refine (AllReadyH.cons (o := { dst := some 21, op := Op.binOp BinOp.neq 9 (Operand.tmp 17) (Operand.tmp 20) 9, type := 4, pos := "ref.go:98", after := #[{ on := 3, ground := Ground.data }, { on := 6, ground := Ground.data }], guard := none }) rfl (fun K hK => ?_) AllReadyH.nil)
        go_simp
        refine hK.out _ _ g5 (fun _ => ?_)
        clear hK K
        refine wpAnyH_done (by kernel_rfl) ?_ _
        go_wp2_with fail
        refine (HRF.out w5 (by have := HB8.out.below g5; rw [HPT.out] at this; exact this)).mono ?_
        rintro e w7 ⟨rfl, rfl⟩
        go_wp2_with fail
        go_ret3
        exact ⟨rfl, g5⟩
end Go.Proofs.YtibkhajhmncgkaaDoor
