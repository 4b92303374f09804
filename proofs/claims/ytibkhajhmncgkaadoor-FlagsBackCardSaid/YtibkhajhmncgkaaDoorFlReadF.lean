/- The walk over flags.ReadFoot. -/
import Derived.Test.YtibkhajhmncgkaaDoorFlRead
import Derived.OwnWalk
namespace Go.Proofs.YtibkhajhmncgkaaDoor
open Go.RowKit

theorem le_of (a b c d : UInt8) :
    bits .or .u32 (bits .or .u32 (bits .or .u32 (IntKind.u32.wrap (a.toNat : Int)) (IntKind.u32.wrap (IntKind.u32.wrap (b.toNat : Int) * 256))) (IntKind.u32.wrap (IntKind.u32.wrap (c.toNat : Int) * 65536))) (IntKind.u32.wrap (IntKind.u32.wrap (d.toNat : Int) * 16777216)) = ((a.toNat + 256 * (b.toNat + 256 * (c.toNat + 256 * d.toNat)) : Nat) : Int) := by
  have h1 := a.toNat_lt; have h2 := b.toNat_lt; have h3 := c.toNat_lt; have h4 := d.toNat_lt
  generalize a.toNat = a at *
  generalize b.toNat = b at *
  generalize c.toNat = c at *
  generalize d.toNat = d at *
  have w0 : ∀ x : Nat, x < 256 → IntKind.u32.wrap (x : Int) = (x : Int) := fun x hx => by rw [IntKind.wrap_u32]; omega
  rw [w0 a (by omega), w0 b (by omega), w0 c (by omega), w0 d (by omega)]
  have e1 : IntKind.u32.wrap ((b : Int) * 256) = ((b * 2 ^ 8 : Nat) : Int) := by rw [IntKind.wrap_u32]; omega
  have e2 : IntKind.u32.wrap ((c : Int) * 65536) = ((c * 2 ^ 16 : Nat) : Int) := by rw [IntKind.wrap_u32]; omega
  have e3 : IntKind.u32.wrap ((d : Int) * 16777216) = ((d * 2 ^ 24 : Nat) : Int) := by rw [IntKind.wrap_u32]; omega
  have o1 : a ||| b * 2 ^ 8 = b * 2 ^ 8 + a := by rw [Nat.or_comm]; exact or_low _ _ 8 (by omega)
  have o2 : (b * 2 ^ 8 + a) ||| c * 2 ^ 16 = c * 2 ^ 16 + (b * 2 ^ 8 + a) := by rw [Nat.or_comm]; exact or_low _ _ 16 (by omega)
  have o3 : (c * 2 ^ 16 + (b * 2 ^ 8 + a)) ||| d * 2 ^ 24 = d * 2 ^ 24 + (c * 2 ^ 16 + (b * 2 ^ 8 + a)) := by rw [Nat.or_comm]; exact or_low _ _ 24 (by omega)
  rw [e1, e2, e3, u32_or_nat _ _ (by omega) (by omega), o1, u32_or_nat _ _ (by omega) (by omega), o2, u32_or_nat _ _ (by omega) (by omega), o3]
  omega
theorem ret3_mid {k k1 k2 : IntKind} {a b c b' : Int} (h : b = b') : Ending.returned (.tuple #[.int k a, .int k1 b, .int k2 c]) = .returned (.tuple #[.int k a, .int k1 b', .int k2 c]) := by rw [h]

set_option maxRecDepth 100000 in
set_option maxHeartbeats 2000000 in
theorem readFoot_any (A : Option Addr) (l : List UInt8) (c : Nat) (w : World) (hT : Tabs w) (hB : Bytes w A l) (hc : l.length ≤ c) (hm : c ≤ 9223372036854775807) (hn : l.length ≤ 100000000) :
    Calls Tryd.prog 18 #[.slice A l.length c] w fun e w' => e = .returned (.tuple #[.int .i64 (readFootR l).1, .int .i64 (readFootR l).2.1, .int .i64 (readFootR l).2.2]) ∧ Below w.heap.size w w' := by
  by_cases h12 : l.length < 12
  · have hr : readFootR l = (0, 0, 2) := by unfold readFootR; rw [if_pos h12]
    rw [hr]
    have hi : (l.length : Int) < 12 := by omega
    clear hr h12
    go_enter Tryd.func18, Tryd.ntmps18
    go_wp2_with fail
    go_ret3
    exact ⟨rfl, Below.refl _ _⟩
  obtain ⟨bb, off, rfl, hbl, hcl⟩ := hB.addr (by omega)
  have hBM := hB.part 10 2
  have hBF := hB.part 0 4
  have hBS := hB.part 4 6
  have HP1 : Hid ((part l 10 2).length = 2) := Lib.hid (part_length _ _ _ (by omega))
  have HP2 : Hid ((part l 0 4).length = 4) := Lib.hid (part_length _ _ _ (by omega))
  have HP3 : Hid ((part l 4 6).length = 6) := Lib.hid (part_length _ _ _ (by omega))
  have hli : (12 : Int) ≤ (l.length : Int) := by omega
  have hci : (12 : Int) ≤ (c : Int) := by omega
  have hcl2 : (l.length : Int) ≤ (c : Int) := by omega
  have hcm : (c : Int) ≤ 9223372036854775807 := by omega
  have HK : Hid (12 ≤ c ∧ c ≤ 9223372036854775807 ∧ 12 ≤ l.length) := Lib.hid ⟨by omega, by omega, by omega⟩
  have hrr : readFootR l = if (part l 10 2 == [89, 90]) = false then (0, 0, 3) else if (part l 0 4 == sumB 1 (part l 4 6)) = false then (0, 0, 4) else if (flagsR (l.getD 8 0) (l.getD 9 0)).2 ≠ 0 then (0, 0, (flagsR (l.getD 8 0) (l.getD 9 0)).2) else ((flagsR (l.getD 8 0) (l.getD 9 0)).1, 4 * (numB (part l 4 4) : Int) + 4, 0) := by unfold readFootR; rw [if_neg h12]
  have HT := Lib.hid hT
  have HPT := Lib.hid (part_two l 8 (by omega))
  have HCS := Lib.hid (fun w' (h : Tabs w') (hb : Bytes w' (some ⟨bb, off + 4, none⟩) (part l 4 6)) => chk_any 1 (some ⟨bb, off + 4, none⟩) (part l 4 6) (c - 4) w' h hb (by rw [HP3.out]; omega) (by omega) (by rw [HP3.out]; omega))
  rw [HP3.out] at HCS
  have HD5 : Hid ((sumB 1 (part l 4 6)).length = 4) := Lib.hid (sum1_length _)
  rw [Nat.add_zero] at hBF
  have HBF := Lib.hid hBF
  have HBS := Lib.hid hBS
  have HB8 := Lib.hid (hB.part 8 2)
  have HCL : Hid (∀ w', Below w.heap.size w w' → ∀ i, i < 12 → w'.cell? ⟨bb, off + i, none⟩ = some (B8 (l.getD i 0))) := Lib.hid (fun w' hb i hi => (hb.cell (p := ⟨bb, off + i, none⟩) hbl).trans (by rw [hcl i (by omega)]; simp [List.getD, show i < l.length by omega]))
  have HNB : Hid (numB (part l 4 4) = (l.getD 4 0).toNat + 256 * ((l.getD 5 0).toNat + 256 * ((l.getD 6 0).toNat + 256 * (l.getD 7 0).toNat))) := Lib.hid (by rw [part_four l 4 (by omega)]; simp [numB])
  generalize sumB 1 (part l 4 6) = SM at *
  generalize part l 10 2 = P1 at *
  generalize part l 0 4 = P2 at *
  clear hT hB hcl hBF hBS h12 hc hm hn
  cases h1 : (P1 == [89, 90]) with
  | false =>
    have HD1 := Lib.hid h1
    have hr : readFootR l = (0, 0, 3) := by rw [hrr, if_pos h1]
    rw [hr]
    clear hr hrr h1
    go_enter Tryd.func18, Tryd.ntmps18
    go_wp2_with fail
    have hdr : Below w.heap.size w w.drew := below_drew w
    refine wp_region_held_drew (S := fun w' => Below w.heap.size w w') (by kernel_rfl) hdr (fun hS => ?_)
    refine wpAnyH_take (i := 0) (oi := { dst := some 13, op := Op.move (Operand.tmp 0), type := 22, pos := "flags.go:75", after := #[], guard := none }) (v := ?va25) rfl (by kernel_rfl) (by kernel_rfl) (by kernel_rfl) (fun _ _ _ h => h) (Or.inl ⟨by rfl, ?ya25⟩) hS ?_
    case ya25 =>
      intro w hSw
      go_simp; all_goals (with_reducible rfl)
    simp only [Act.put, List.setIfInBounds_toArray, List.set_cons_zero, List.set_cons_succ]
    refine wpAnyH_take (i := 1) (oi := { dst := some 14, op := Op.slice 22 (Operand.tmp 13) (some (Operand.const (Value.int IntKind.i64 10))) (some (Operand.const (Value.int IntKind.i64 12))) none, type := 22, pos := "flags.go:75", after := #[{ on := 0, ground := Ground.data }], guard := none }) (v := ?va26) rfl (by kernel_rfl) (by kernel_rfl) (by kernel_rfl) (fun _ _ _ h => h) (Or.inl ⟨by rfl, ?ya26⟩) hS ?_
    case ya26 =>
      intro w hSw
      have i2 : (2 : Int) ≤ (c : Int) := by omega
      have i4 : (4 : Int) ≤ (c : Int) := by omega
      have i6 : (6 : Int) ≤ (c : Int) := by omega
      have i8 : (8 : Int) ≤ (c : Int) := by omega
      have i10 : (10 : Int) ≤ (c : Int) := by omega
      have n2 : ¬ c = 2 := by have := HK.out; omega
      have n4 : ¬ c = 4 := by have := HK.out; omega
      have n6 : ¬ c = 6 := by have := HK.out; omega
      have n8 : ¬ c = 8 := by have := HK.out; omega
      have n10 : ¬ c = 10 := by have := HK.out; omega
      go_simp; all_goals (with_reducible rfl)
    simp only [Act.put, List.setIfInBounds_toArray, List.set_cons_zero, List.set_cons_succ]
    refine wpAnyH_ready (rs := [2]) (by kernel_rfl) (by simp) ?_
    refine (AllReadyH.cons (o := { dst := some 15, op := Op.call { callee := Callee.value (Operand.func 23), args := #[], argTypes := #[] }, type := 22, pos := "flags.go:75", after := #[], guard := none }) rfl (fun K hK => ?_) AllReadyH.nil)
    go_simp
    refine (footMagic_any _).mono ?_
    rintro e w2 ⟨v2, rfl, ho2, hb2⟩
    have g2 : Below w.heap.size w w2 := hdr.trans (hb2.mono hdr.size)
    obtain ⟨A2, c2, rfl, hc2, hm2, hB2⟩ := ho2.read
    have HEQ := Lib.hid (equal_any _ _ _ _ (c - 10) c2 w2 (hBM.below g2) hB2)
    clear ho2 hb2 hB2
    go_wp2_with fail
    refine hK.out _ _ g2 (fun _ => ?_)
    clear hK K
    refine wpAnyH_ready (rs := [3]) (by kernel_rfl) (by simp) ?_
    refine (AllReadyH.cons (o := { dst := some 16, op := Op.call { callee := Callee.value (Operand.func 29), args := #[Operand.tmp 14, Operand.tmp 15], argTypes := #[22, 22] }, type := 4, pos := "flags.go:75", after := #[{ on := 1, ground := Ground.data }, { on := 2, ground := Ground.data }, { on := 2, ground := Ground.chain }], guard := none }) rfl (fun K hK => ?_) AllReadyH.nil)
    go_simp
    rw [HP1.out] at HEQ
    refine HEQ.out.mono ?_
    rintro e w3 ⟨rfl, rfl⟩
    rw [HD1.out]
    go_wp2_with fail
    refine hK.out _ _ g2 (fun _ => ?_)
    clear hK K
    refine wpAnyH_take (i := 4) (oi := { dst := some 17, op := Op.unOp UnOp.not 4 (Operand.tmp 16), type := 4, pos := "flags.go:75", after := #[{ on := 3, ground := Ground.data }], guard := none }) (v := ?va27) rfl (by kernel_rfl) (by kernel_rfl) (by kernel_rfl) (fun _ _ _ h => h) (Or.inl ⟨by rfl, ?ya27⟩) g2 ?_
    case ya27 =>
      intro w hSw
      go_simp; all_goals (with_reducible rfl)
    simp only [Act.put, List.setIfInBounds_toArray, List.set_cons_zero, List.set_cons_succ]
    refine wpAnyH_take (i := 5) (oi := { dst := some 12, op := Op.assign (Operand.tmp 17), type := 4, pos := "flags.go:75", after := #[{ on := 4, ground := Ground.data }, { on := 3, ground := Ground.chain }], guard := none }) (v := ?va28) rfl (by kernel_rfl) (by kernel_rfl) (by kernel_rfl) (fun _ _ _ h => h) (Or.inl ⟨by rfl, ?ya28⟩) g2 ?_
    case ya28 =>
      intro w hSw
      go_simp; all_goals (with_reducible rfl)
    simp only [Act.put, List.setIfInBounds_toArray, List.set_cons_zero, List.set_cons_succ]
    refine wpAnyH_done (by kernel_rfl) ?_ _
    go_wp2_with fail
    go_ret3
    exact ⟨rfl, g2⟩
  | true =>
    have HD1 := Lib.hid h1
    rw [if_neg (by rw [h1]; simp)] at hrr
    cases h2 : (P2 == SM) with
    | false =>
      have HD2 := Lib.hid h2
      have hr : readFootR l = (0, 0, 4) := by rw [hrr, if_pos h2]
      rw [hr]
      clear hr hrr h1 h2
      go_enter Tryd.func18, Tryd.ntmps18
      go_wp2_with fail
      have hdr : Below w.heap.size w w.drew := below_drew w
      refine wp_region_held_drew (S := fun w' => Below w.heap.size w w') (by kernel_rfl) hdr (fun hS => ?_)
      refine wpAnyH_take (i := 0) (oi := { dst := some 13, op := Op.move (Operand.tmp 0), type := 22, pos := "flags.go:75", after := #[], guard := none }) (v := ?vb29) rfl (by kernel_rfl) (by kernel_rfl) (by kernel_rfl) (fun _ _ _ h => h) (Or.inl ⟨by rfl, ?yb29⟩) hS ?_
      case yb29 =>
        intro w hSw
        go_simp; all_goals (with_reducible rfl)
      simp only [Act.put, List.setIfInBounds_toArray, List.set_cons_zero, List.set_cons_succ]
      refine wpAnyH_take (i := 1) (oi := { dst := some 14, op := Op.slice 22 (Operand.tmp 13) (some (Operand.const (Value.int IntKind.i64 10))) (some (Operand.const (Value.int IntKind.i64 12))) none, type := 22, pos := "flags.go:75", after := #[{ on := 0, ground := Ground.data }], guard := none }) (v := ?vb30) rfl (by kernel_rfl) (by kernel_rfl) (by kernel_rfl) (fun _ _ _ h => h) (Or.inl ⟨by rfl, ?yb30⟩) hS ?_
      case yb30 =>
        intro w hSw
        have i2 : (2 : Int) ≤ (c : Int) := by omega
        have i4 : (4 : Int) ≤ (c : Int) := by omega
        have i6 : (6 : Int) ≤ (c : Int) := by omega
        have i8 : (8 : Int) ≤ (c : Int) := by omega
        have i10 : (10 : Int) ≤ (c : Int) := by omega
        have n2 : ¬ c = 2 := by have := HK.out; omega
        have n4 : ¬ c = 4 := by have := HK.out; omega
        have n6 : ¬ c = 6 := by have := HK.out; omega
        have n8 : ¬ c = 8 := by have := HK.out; omega
        have n10 : ¬ c = 10 := by have := HK.out; omega
        go_simp; all_goals (with_reducible rfl)
      simp only [Act.put, List.setIfInBounds_toArray, List.set_cons_zero, List.set_cons_succ]
      refine wpAnyH_ready (rs := [2]) (by kernel_rfl) (by simp) ?_
      refine (AllReadyH.cons (o := { dst := some 15, op := Op.call { callee := Callee.value (Operand.func 23), args := #[], argTypes := #[] }, type := 22, pos := "flags.go:75", after := #[], guard := none }) rfl (fun K hK => ?_) AllReadyH.nil)
      go_simp
      refine (footMagic_any _).mono ?_
      rintro e w2 ⟨v2, rfl, ho2, hb2⟩
      have g2 : Below w.heap.size w w2 := hdr.trans (hb2.mono hdr.size)
      obtain ⟨A2, c2, rfl, hc2, hm2, hB2⟩ := ho2.read
      have HEQ := Lib.hid (equal_any _ _ _ _ (c - 10) c2 w2 (hBM.below g2) hB2)
      clear ho2 hb2 hB2
      go_wp2_with fail
      refine hK.out _ _ g2 (fun _ => ?_)
      clear hK K
      refine wpAnyH_ready (rs := [3]) (by kernel_rfl) (by simp) ?_
      refine (AllReadyH.cons (o := { dst := some 16, op := Op.call { callee := Callee.value (Operand.func 29), args := #[Operand.tmp 14, Operand.tmp 15], argTypes := #[22, 22] }, type := 4, pos := "flags.go:75", after := #[{ on := 1, ground := Ground.data }, { on := 2, ground := Ground.data }, { on := 2, ground := Ground.chain }], guard := none }) rfl (fun K hK => ?_) AllReadyH.nil)
      go_simp
      rw [HP1.out] at HEQ
      refine HEQ.out.mono ?_
      rintro e w3 ⟨rfl, rfl⟩
      rw [HD1.out]
      go_wp2_with fail
      refine hK.out _ _ g2 (fun _ => ?_)
      clear hK K
      refine wpAnyH_take (i := 4) (oi := { dst := some 17, op := Op.unOp UnOp.not 4 (Operand.tmp 16), type := 4, pos := "flags.go:75", after := #[{ on := 3, ground := Ground.data }], guard := none }) (v := ?vb31) rfl (by kernel_rfl) (by kernel_rfl) (by kernel_rfl) (fun _ _ _ h => h) (Or.inl ⟨by rfl, ?yb31⟩) g2 ?_
      case yb31 =>
        intro w hSw
        go_simp; all_goals (with_reducible rfl)
      simp only [Act.put, List.setIfInBounds_toArray, List.set_cons_zero, List.set_cons_succ]
      refine wpAnyH_take (i := 5) (oi := { dst := some 12, op := Op.assign (Operand.tmp 17), type := 4, pos := "flags.go:75", after := #[{ on := 4, ground := Ground.data }, { on := 3, ground := Ground.chain }], guard := none }) (v := ?vb32) rfl (by kernel_rfl) (by kernel_rfl) (by kernel_rfl) (fun _ _ _ h => h) (Or.inl ⟨by rfl, ?yb32⟩) g2 ?_
      case yb32 =>
        intro w hSw
        go_simp; all_goals (with_reducible rfl)
      simp only [Act.put, List.setIfInBounds_toArray, List.set_cons_zero, List.set_cons_succ]
      refine wpAnyH_done (by kernel_rfl) ?_ _
      go_wp2_with fail
      have hS2 : Below w.heap.size w w2.drew := g2.drew
      refine wp_region_held_drew (S := fun w' => Below w.heap.size w w') (by kernel_rfl) hS2 (fun hS => ?_)
      refine wpAnyH_take (i := 0) (oi := { dst := some 19, op := Op.move (Operand.tmp 0), type := 22, pos := "flags.go:77", after := #[], guard := none }) (v := ?vc33) rfl (by kernel_rfl) (by kernel_rfl) (by kernel_rfl) (fun _ _ _ h => h) (Or.inl ⟨by rfl, ?yc33⟩) hS ?_
      case yc33 =>
        intro w hSw
        go_simp; all_goals (with_reducible rfl)
      simp only [Act.put, List.setIfInBounds_toArray, List.set_cons_zero, List.set_cons_succ]
      refine wpAnyH_take (i := 1) (oi := { dst := some 20, op := Op.slice 22 (Operand.tmp 19) none (some (Operand.const (Value.int IntKind.i64 4))) none, type := 22, pos := "flags.go:77", after := #[{ on := 0, ground := Ground.data }], guard := none }) (v := ?vc34) rfl (by kernel_rfl) (by kernel_rfl) (by kernel_rfl) (fun _ _ _ h => h) (Or.inl ⟨by rfl, ?yc34⟩) hS ?_
      case yc34 =>
        intro w hSw
        have i2 : (2 : Int) ≤ (c : Int) := by omega
        have i4 : (4 : Int) ≤ (c : Int) := by omega
        have i6 : (6 : Int) ≤ (c : Int) := by omega
        have i8 : (8 : Int) ≤ (c : Int) := by omega
        have i10 : (10 : Int) ≤ (c : Int) := by omega
        have n2 : ¬ c = 2 := by have := HK.out; omega
        have n4 : ¬ c = 4 := by have := HK.out; omega
        have n6 : ¬ c = 6 := by have := HK.out; omega
        have n8 : ¬ c = 8 := by have := HK.out; omega
        have n10 : ¬ c = 10 := by have := HK.out; omega
        go_simp; all_goals (with_reducible rfl)
      simp only [Act.put, List.setIfInBounds_toArray, List.set_cons_zero, List.set_cons_succ]
      refine wpAnyH_take (i := 2) (oi := { dst := some 21, op := Op.move (Operand.tmp 0), type := 22, pos := "flags.go:77", after := #[], guard := none }) (v := ?vc35) rfl (by kernel_rfl) (by kernel_rfl) (by kernel_rfl) (fun _ _ _ h => h) (Or.inl ⟨by rfl, ?yc35⟩) hS ?_
      case yc35 =>
        intro w hSw
        go_simp; all_goals (with_reducible rfl)
      simp only [Act.put, List.setIfInBounds_toArray, List.set_cons_zero, List.set_cons_succ]
      refine wpAnyH_take (i := 3) (oi := { dst := some 22, op := Op.slice 22 (Operand.tmp 21) (some (Operand.const (Value.int IntKind.i64 4))) (some (Operand.const (Value.int IntKind.i64 10))) none, type := 22, pos := "flags.go:77", after := #[{ on := 2, ground := Ground.data }], guard := none }) (v := ?vc36) rfl (by kernel_rfl) (by kernel_rfl) (by kernel_rfl) (fun _ _ _ h => h) (Or.inl ⟨by rfl, ?yc36⟩) hS ?_
      case yc36 =>
        intro w hSw
        have i2 : (2 : Int) ≤ (c : Int) := by omega
        have i4 : (4 : Int) ≤ (c : Int) := by omega
        have i6 : (6 : Int) ≤ (c : Int) := by omega
        have i8 : (8 : Int) ≤ (c : Int) := by omega
        have i10 : (10 : Int) ≤ (c : Int) := by omega
        have n2 : ¬ c = 2 := by have := HK.out; omega
        have n4 : ¬ c = 4 := by have := HK.out; omega
        have n6 : ¬ c = 6 := by have := HK.out; omega
        have n8 : ¬ c = 8 := by have := HK.out; omega
        have n10 : ¬ c = 10 := by have := HK.out; omega
        go_simp; all_goals (with_reducible rfl)
      simp only [Act.put, List.setIfInBounds_toArray, List.set_cons_zero, List.set_cons_succ]
      refine wpAnyH_ready (rs := [4]) (by kernel_rfl) (by simp) ?_
      refine (AllReadyH.cons (o := { dst := some 23, op := Op.call { callee := Callee.value (Operand.func 12), args := #[Operand.const (Value.int IntKind.i64 1), Operand.tmp 22], argTypes := #[3, 22] }, type := 22, pos := "flags.go:77", after := #[{ on := 3, ground := Ground.data }], guard := none }) rfl (fun K hK => ?_) AllReadyH.nil)
      go_simp
      refine (HCS.out _ (HT.out.below hS2) (HBS.out.below hS2)).mono ?_
      rintro e w5 ⟨A5, c5, rfl, hc5, hm5, hB5, hb5⟩
      have g5 : Below w.heap.size w w5 := hS2.trans (hb5.mono hS2.size)
      have HEQ := Lib.hid (equal_any _ _ _ _ c c5 w5 (HBF.out.below g5) hB5)
      clear hb5 hB5
      rw [HD5.out]
      go_wp2_with fail
      refine hK.out _ _ g5 (fun _ => ?_)
      clear hK K
      refine wpAnyH_ready (rs := [5]) (by kernel_rfl) (by simp) ?_
      refine (AllReadyH.cons (o := { dst := some 24, op := Op.call { callee := Callee.value (Operand.func 29), args := #[Operand.tmp 20, Operand.tmp 23], argTypes := #[22, 22] }, type := 4, pos := "flags.go:77", after := #[{ on := 1, ground := Ground.data }, { on := 4, ground := Ground.data }, { on := 4, ground := Ground.chain }], guard := none }) rfl (fun K hK => ?_) AllReadyH.nil)
      go_simp
      rw [HP2.out, HD5.out] at HEQ
      refine HEQ.out.mono ?_
      rintro e w6 ⟨rfl, rfl⟩
      rw [HD2.out]
      go_wp2_with fail
      refine hK.out _ _ g5 (fun _ => ?_)
      clear hK K
      refine wpAnyH_take (i := 6) (oi := { dst := some 25, op := Op.unOp UnOp.not 4 (Operand.tmp 24), type := 4, pos := "flags.go:77", after := #[{ on := 5, ground := Ground.data }], guard := none }) (v := ?vc37) rfl (by kernel_rfl) (by kernel_rfl) (by kernel_rfl) (fun _ _ _ h => h) (Or.inl ⟨by rfl, ?yc37⟩) g5 ?_
      case yc37 =>
        intro w hSw
        go_simp; all_goals (with_reducible rfl)
      simp only [Act.put, List.setIfInBounds_toArray, List.set_cons_zero, List.set_cons_succ]
      refine wpAnyH_take (i := 7) (oi := { dst := some 18, op := Op.assign (Operand.tmp 25), type := 4, pos := "flags.go:77", after := #[{ on := 6, ground := Ground.data }, { on := 5, ground := Ground.chain }], guard := none }) (v := ?vc38) rfl (by kernel_rfl) (by kernel_rfl) (by kernel_rfl) (fun _ _ _ h => h) (Or.inl ⟨by rfl, ?yc38⟩) g5 ?_
      case yc38 =>
        intro w hSw
        go_simp; all_goals (with_reducible rfl)
      simp only [Act.put, List.setIfInBounds_toArray, List.set_cons_zero, List.set_cons_succ]
      refine wpAnyH_done (by kernel_rfl) ?_ _
      go_wp2_with fail
      go_ret3
      exact ⟨rfl, g5⟩
    | true =>
      have HD2 := Lib.hid h2
      rw [if_neg (by rw [h2]; simp)] at hrr
      have HRF := Lib.hid (fun w' (h : Bytes w' (some ⟨bb, off + 8, none⟩) [l.getD 8 0, l.getD 9 0]) => readFlags_any (some ⟨bb, off + 8, none⟩) (l.getD 8 0) (l.getD 9 0) (c - 8) w' h)
      generalize l.getD 8 0 = x at *
      generalize l.getD 9 0 = y at *
      generalize flagsR x y = R at *
      clear h1 h2
      by_cases h3 : R.2 = 0
      · have hr : readFootR l = (R.1, 4 * (numB (part l 4 4) : Int) + 4, 0) := by rw [hrr, if_neg (fun h => h h3)]
        rw [hr, HNB.out]
        rw [h3] at HRF
        have H3 := Lib.hid h3
        clear h3
        have h4 := (l.getD 4 0).toNat_lt
        have h5 := (l.getD 5 0).toNat_lt
        have h6 := (l.getD 6 0).toNat_lt
        have h7 := (l.getD 7 0).toNat_lt
        have HLE := Lib.hid (le_of (l.getD 4 0) (l.getD 5 0) (l.getD 6 0) (l.getD 7 0))
        have hNb : (l.getD 4 0).toNat + 256 * ((l.getD 5 0).toNat + 256 * ((l.getD 6 0).toNat + 256 * (l.getD 7 0).toNat)) < 4294967296 := by omega
        have HC4 := Lib.hid (fun w' h => HCL.out w' h 4 (by omega))
        have HC5 := Lib.hid (fun w' h => HCL.out w' h 5 (by omega))
        have HC6 := Lib.hid (fun w' h => HCL.out w' h 6 (by omega))
        have HC7 := Lib.hid (fun w' h => HCL.out w' h 7 (by omega))
        clear h4 h5 h6 h7 hr hrr HNB HCL
        generalize l.getD 4 0 = y4 at *
        generalize l.getD 5 0 = y5 at *
        generalize l.getD 6 0 = y6 at *
        generalize l.getD 7 0 = y7 at *
        generalize y4.toNat + 256 * (y5.toNat + 256 * (y6.toNat + 256 * y7.toNat)) = N at *
        have HNI : Hid ((N : Int) < 4294967296 ∧ (0 : Int) ≤ (N : Int)) := Lib.hid ⟨by omega, by omega⟩
        clear hNb
        go_enter Tryd.func18, Tryd.ntmps18
        go_wp2_with fail
        have hdr : Below w.heap.size w w.drew := below_drew w
        refine wp_region_held_drew (S := fun w' => Below w.heap.size w w') (by kernel_rfl) hdr (fun hS => ?_)
        refine wpAnyH_take (i := 0) (oi := { dst := some 13, op := Op.move (Operand.tmp 0), type := 22, pos := "flags.go:75", after := #[], guard := none }) (v := ?vd39) rfl (by kernel_rfl) (by kernel_rfl) (by kernel_rfl) (fun _ _ _ h => h) (Or.inl ⟨by rfl, ?yd39⟩) hS ?_
        case yd39 =>
          intro w hSw
          go_simp; all_goals (with_reducible rfl)
        simp only [Act.put, List.setIfInBounds_toArray, List.set_cons_zero, List.set_cons_succ]
        refine wpAnyH_take (i := 1) (oi := { dst := some 14, op := Op.slice 22 (Operand.tmp 13) (some (Operand.const (Value.int IntKind.i64 10))) (some (Operand.const (Value.int IntKind.i64 12))) none, type := 22, pos := "flags.go:75", after := #[{ on := 0, ground := Ground.data }], guard := none }) (v := ?vd40) rfl (by kernel_rfl) (by kernel_rfl) (by kernel_rfl) (fun _ _ _ h => h) (Or.inl ⟨by rfl, ?yd40⟩) hS ?_
        case yd40 =>
          intro w hSw
          have i2 : (2 : Int) ≤ (c : Int) := by omega
          have i4 : (4 : Int) ≤ (c : Int) := by omega
          have i6 : (6 : Int) ≤ (c : Int) := by omega
          have i8 : (8 : Int) ≤ (c : Int) := by omega
          have i10 : (10 : Int) ≤ (c : Int) := by omega
          have n2 : ¬ c = 2 := by have := HK.out; omega
          have n4 : ¬ c = 4 := by have := HK.out; omega
          have n6 : ¬ c = 6 := by have := HK.out; omega
          have n8 : ¬ c = 8 := by have := HK.out; omega
          have n10 : ¬ c = 10 := by have := HK.out; omega
          go_simp; all_goals (with_reducible rfl)
        simp only [Act.put, List.setIfInBounds_toArray, List.set_cons_zero, List.set_cons_succ]
        refine wpAnyH_ready (rs := [2]) (by kernel_rfl) (by simp) ?_
        refine (AllReadyH.cons (o := { dst := some 15, op := Op.call { callee := Callee.value (Operand.func 23), args := #[], argTypes := #[] }, type := 22, pos := "flags.go:75", after := #[], guard := none }) rfl (fun K hK => ?_) AllReadyH.nil)
        go_simp
        refine (footMagic_any _).mono ?_
        rintro e w2 ⟨v2, rfl, ho2, hb2⟩
        have g2 : Below w.heap.size w w2 := hdr.trans (hb2.mono hdr.size)
        obtain ⟨A2, c2, rfl, hc2, hm2, hB2⟩ := ho2.read
        have HEQ := Lib.hid (equal_any _ _ _ _ (c - 10) c2 w2 (hBM.below g2) hB2)
        clear ho2 hb2 hB2
        go_wp2_with fail
        refine hK.out _ _ g2 (fun _ => ?_)
        clear hK K
        refine wpAnyH_ready (rs := [3]) (by kernel_rfl) (by simp) ?_
        refine (AllReadyH.cons (o := { dst := some 16, op := Op.call { callee := Callee.value (Operand.func 29), args := #[Operand.tmp 14, Operand.tmp 15], argTypes := #[22, 22] }, type := 4, pos := "flags.go:75", after := #[{ on := 1, ground := Ground.data }, { on := 2, ground := Ground.data }, { on := 2, ground := Ground.chain }], guard := none }) rfl (fun K hK => ?_) AllReadyH.nil)
        go_simp
        rw [HP1.out] at HEQ
        refine HEQ.out.mono ?_
        rintro e w3 ⟨rfl, rfl⟩
        rw [HD1.out]
        go_wp2_with fail
        refine hK.out _ _ g2 (fun _ => ?_)
        clear hK K
        refine wpAnyH_take (i := 4) (oi := { dst := some 17, op := Op.unOp UnOp.not 4 (Operand.tmp 16), type := 4, pos := "flags.go:75", after := #[{ on := 3, ground := Ground.data }], guard := none }) (v := ?vd41) rfl (by kernel_rfl) (by kernel_rfl) (by kernel_rfl) (fun _ _ _ h => h) (Or.inl ⟨by rfl, ?yd41⟩) g2 ?_
        case yd41 =>
          intro w hSw
          go_simp; all_goals (with_reducible rfl)
        simp only [Act.put, List.setIfInBounds_toArray, List.set_cons_zero, List.set_cons_succ]
        refine wpAnyH_take (i := 5) (oi := { dst := some 12, op := Op.assign (Operand.tmp 17), type := 4, pos := "flags.go:75", after := #[{ on := 4, ground := Ground.data }, { on := 3, ground := Ground.chain }], guard := none }) (v := ?vd42) rfl (by kernel_rfl) (by kernel_rfl) (by kernel_rfl) (fun _ _ _ h => h) (Or.inl ⟨by rfl, ?yd42⟩) g2 ?_
        case yd42 =>
          intro w hSw
          go_simp; all_goals (with_reducible rfl)
        simp only [Act.put, List.setIfInBounds_toArray, List.set_cons_zero, List.set_cons_succ]
        refine wpAnyH_done (by kernel_rfl) ?_ _
        go_wp2_with fail
        have hS2 : Below w.heap.size w w2.drew := g2.drew
        refine wp_region_held_drew (S := fun w' => Below w.heap.size w w') (by kernel_rfl) hS2 (fun hS => ?_)
        refine wpAnyH_take (i := 0) (oi := { dst := some 19, op := Op.move (Operand.tmp 0), type := 22, pos := "flags.go:77", after := #[], guard := none }) (v := ?ve43) rfl (by kernel_rfl) (by kernel_rfl) (by kernel_rfl) (fun _ _ _ h => h) (Or.inl ⟨by rfl, ?ye43⟩) hS ?_
        case ye43 =>
          intro w hSw
          go_simp; all_goals (with_reducible rfl)
        simp only [Act.put, List.setIfInBounds_toArray, List.set_cons_zero, List.set_cons_succ]
        refine wpAnyH_take (i := 1) (oi := { dst := some 20, op := Op.slice 22 (Operand.tmp 19) none (some (Operand.const (Value.int IntKind.i64 4))) none, type := 22, pos := "flags.go:77", after := #[{ on := 0, ground := Ground.data }], guard := none }) (v := ?ve44) rfl (by kernel_rfl) (by kernel_rfl) (by kernel_rfl) (fun _ _ _ h => h) (Or.inl ⟨by rfl, ?ye44⟩) hS ?_
        case ye44 =>
          intro w hSw
          have i2 : (2 : Int) ≤ (c : Int) := by omega
          have i4 : (4 : Int) ≤ (c : Int) := by omega
          have i6 : (6 : Int) ≤ (c : Int) := by omega
          have i8 : (8 : Int) ≤ (c : Int) := by omega
          have i10 : (10 : Int) ≤ (c : Int) := by omega
          have n2 : ¬ c = 2 := by have := HK.out; omega
          have n4 : ¬ c = 4 := by have := HK.out; omega
          have n6 : ¬ c = 6 := by have := HK.out; omega
          have n8 : ¬ c = 8 := by have := HK.out; omega
          have n10 : ¬ c = 10 := by have := HK.out; omega
          go_simp; all_goals (with_reducible rfl)
        simp only [Act.put, List.setIfInBounds_toArray, List.set_cons_zero, List.set_cons_succ]
        refine wpAnyH_take (i := 2) (oi := { dst := some 21, op := Op.move (Operand.tmp 0), type := 22, pos := "flags.go:77", after := #[], guard := none }) (v := ?ve45) rfl (by kernel_rfl) (by kernel_rfl) (by kernel_rfl) (fun _ _ _ h => h) (Or.inl ⟨by rfl, ?ye45⟩) hS ?_
        case ye45 =>
          intro w hSw
          go_simp; all_goals (with_reducible rfl)
        simp only [Act.put, List.setIfInBounds_toArray, List.set_cons_zero, List.set_cons_succ]
        refine wpAnyH_take (i := 3) (oi := { dst := some 22, op := Op.slice 22 (Operand.tmp 21) (some (Operand.const (Value.int IntKind.i64 4))) (some (Operand.const (Value.int IntKind.i64 10))) none, type := 22, pos := "flags.go:77", after := #[{ on := 2, ground := Ground.data }], guard := none }) (v := ?ve46) rfl (by kernel_rfl) (by kernel_rfl) (by kernel_rfl) (fun _ _ _ h => h) (Or.inl ⟨by rfl, ?ye46⟩) hS ?_
        case ye46 =>
          intro w hSw
          have i2 : (2 : Int) ≤ (c : Int) := by omega
          have i4 : (4 : Int) ≤ (c : Int) := by omega
          have i6 : (6 : Int) ≤ (c : Int) := by omega
          have i8 : (8 : Int) ≤ (c : Int) := by omega
          have i10 : (10 : Int) ≤ (c : Int) := by omega
          have n2 : ¬ c = 2 := by have := HK.out; omega
          have n4 : ¬ c = 4 := by have := HK.out; omega
          have n6 : ¬ c = 6 := by have := HK.out; omega
          have n8 : ¬ c = 8 := by have := HK.out; omega
          have n10 : ¬ c = 10 := by have := HK.out; omega
          go_simp; all_goals (with_reducible rfl)
        simp only [Act.put, List.setIfInBounds_toArray, List.set_cons_zero, List.set_cons_succ]
        refine wpAnyH_ready (rs := [4]) (by kernel_rfl) (by simp) ?_
        refine (AllReadyH.cons (o := { dst := some 23, op := Op.call { callee := Callee.value (Operand.func 12), args := #[Operand.const (Value.int IntKind.i64 1), Operand.tmp 22], argTypes := #[3, 22] }, type := 22, pos := "flags.go:77", after := #[{ on := 3, ground := Ground.data }], guard := none }) rfl (fun K hK => ?_) AllReadyH.nil)
        go_simp
        refine (HCS.out _ (HT.out.below hS2) (HBS.out.below hS2)).mono ?_
        rintro e w5 ⟨A5, c5, rfl, hc5, hm5, hB5, hb5⟩
        have g5 : Below w.heap.size w w5 := hS2.trans (hb5.mono hS2.size)
        have HEQ := Lib.hid (equal_any _ _ _ _ c c5 w5 (HBF.out.below g5) hB5)
        clear hb5 hB5
        rw [HD5.out]
        go_wp2_with fail
        refine hK.out _ _ g5 (fun _ => ?_)
        clear hK K
        refine wpAnyH_ready (rs := [5]) (by kernel_rfl) (by simp) ?_
        refine (AllReadyH.cons (o := { dst := some 24, op := Op.call { callee := Callee.value (Operand.func 29), args := #[Operand.tmp 20, Operand.tmp 23], argTypes := #[22, 22] }, type := 4, pos := "flags.go:77", after := #[{ on := 1, ground := Ground.data }, { on := 4, ground := Ground.data }, { on := 4, ground := Ground.chain }], guard := none }) rfl (fun K hK => ?_) AllReadyH.nil)
        go_simp
        rw [HP2.out, HD5.out] at HEQ
        refine HEQ.out.mono ?_
        rintro e w6 ⟨rfl, rfl⟩
        rw [HD2.out]
        go_wp2_with fail
        refine hK.out _ _ g5 (fun _ => ?_)
        clear hK K
        refine wpAnyH_take (i := 6) (oi := { dst := some 25, op := Op.unOp UnOp.not 4 (Operand.tmp 24), type := 4, pos := "flags.go:77", after := #[{ on := 5, ground := Ground.data }], guard := none }) (v := ?ve47) rfl (by kernel_rfl) (by kernel_rfl) (by kernel_rfl) (fun _ _ _ h => h) (Or.inl ⟨by rfl, ?ye47⟩) g5 ?_
        case ye47 =>
          intro w hSw
          go_simp; all_goals (with_reducible rfl)
        simp only [Act.put, List.setIfInBounds_toArray, List.set_cons_zero, List.set_cons_succ]
        refine wpAnyH_take (i := 7) (oi := { dst := some 18, op := Op.assign (Operand.tmp 25), type := 4, pos := "flags.go:77", after := #[{ on := 6, ground := Ground.data }, { on := 5, ground := Ground.chain }], guard := none }) (v := ?ve48) rfl (by kernel_rfl) (by kernel_rfl) (by kernel_rfl) (fun _ _ _ h => h) (Or.inl ⟨by rfl, ?ye48⟩) g5 ?_
        case ye48 =>
          intro w hSw
          go_simp; all_goals (with_reducible rfl)
        simp only [Act.put, List.setIfInBounds_toArray, List.set_cons_zero, List.set_cons_succ]
        refine wpAnyH_done (by kernel_rfl) ?_ _
        go_wp2_with fail
        refine (HRF.out w5 (by have := HB8.out.below g5; rw [HPT.out] at this; exact this)).mono ?_
        rintro e w7 ⟨rfl, hb7⟩
        have g7 := g5.trans (hb7.mono g5.size)
        go_wp2_with fail
        have k4 := HC4.out w7.drew g7.drew
        have k5 := HC5.out w7.drew g7.drew
        have k6 := HC6.out w7.drew g7.drew
        have k7 := HC7.out w7.drew g7.drew
        refine wp_region_held_drew (S := fun w' => w'.cell? ⟨bb, off + 4, none⟩ = some (B8 y4) ∧ w'.cell? ⟨bb, off + 5, none⟩ = some (B8 y5) ∧ w'.cell? ⟨bb, off + 6, none⟩ = some (B8 y6) ∧ w'.cell? ⟨bb, off + 7, none⟩ = some (B8 y7)) (by kernel_rfl) ⟨k4, k5, k6, k7⟩ (fun hS => ?_)
        refine wpAnyH_take (i := 0) (oi := { dst := some 35, op := Op.move (Operand.tmp 0), type := 22, pos := "flags.go:84", after := #[], guard := none }) (v := ?vf49) rfl (by kernel_rfl) (by kernel_rfl) (by kernel_rfl) (fun _ _ _ h => h) (Or.inl ⟨by rfl, ?yf49⟩) hS ?_
        case yf49 =>
          intro w hSw
          go_simp; all_goals (with_reducible rfl)
        simp only [Act.put, List.setIfInBounds_toArray, List.set_cons_zero, List.set_cons_succ]
        refine wpAnyH_take (i := 1) (oi := { dst := some 36, op := Op.indexAddr 22 (Operand.tmp 35) (Operand.const (Value.int IntKind.i64 4)), type := 0, pos := "flags.go:84", after := #[{ on := 0, ground := Ground.data }], guard := none }) (v := ?vf50) rfl (by kernel_rfl) (by kernel_rfl) (by kernel_rfl) (fun _ _ _ h => h) (Or.inl ⟨by rfl, ?yf50⟩) hS ?_
        case yf50 =>
          intro w hSw
          have i4 : (4 : Int) < (l.length : Int) := by omega
          have i5 : (5 : Int) < (l.length : Int) := by omega
          have i6 : (6 : Int) < (l.length : Int) := by omega
          have i7 : (7 : Int) < (l.length : Int) := by omega
          go_simp; all_goals (with_reducible rfl)
        simp only [Act.put, List.setIfInBounds_toArray, List.set_cons_zero, List.set_cons_succ]
        refine wpAnyH_take (i := 2) (oi := { dst := some 37, op := Op.load 5 (Operand.tmp 36), type := 5, pos := "flags.go:84", after := #[{ on := 1, ground := Ground.data }], guard := none }) (v := ?vf51) rfl (by kernel_rfl) (by kernel_rfl) (by kernel_rfl) (fun _ _ _ h => h) (Or.inl ⟨by rfl, ?yf51⟩) hS ?_
        case yf51 =>
          intro w hSw
          obtain ⟨j0, j1, j2, j3⟩ := hSw
          go_simp; all_goals (with_reducible rfl)
        simp only [Act.put, List.setIfInBounds_toArray, List.set_cons_zero, List.set_cons_succ]
        refine wpAnyH_take (i := 3) (oi := { dst := some 38, op := Op.convert 5 53 (Operand.tmp 37), type := 53, pos := "flags.go:84", after := #[{ on := 2, ground := Ground.data }], guard := none }) (v := ?vf52) rfl (by kernel_rfl) (by kernel_rfl) (by kernel_rfl) (fun _ _ _ h => h) (Or.inl ⟨by rfl, ?yf52⟩) hS ?_
        case yf52 =>
          intro w hSw
          go_simp; all_goals (with_reducible rfl)
        simp only [Act.put, List.setIfInBounds_toArray, List.set_cons_zero, List.set_cons_succ]
        refine wpAnyH_take (i := 4) (oi := { dst := some 39, op := Op.move (Operand.tmp 0), type := 22, pos := "flags.go:84", after := #[], guard := none }) (v := ?vf53) rfl (by kernel_rfl) (by kernel_rfl) (by kernel_rfl) (fun _ _ _ h => h) (Or.inl ⟨by rfl, ?yf53⟩) hS ?_
        case yf53 =>
          intro w hSw
          go_simp; all_goals (with_reducible rfl)
        simp only [Act.put, List.setIfInBounds_toArray, List.set_cons_zero, List.set_cons_succ]
        refine wpAnyH_take (i := 5) (oi := { dst := some 40, op := Op.indexAddr 22 (Operand.tmp 39) (Operand.const (Value.int IntKind.i64 5)), type := 0, pos := "flags.go:84", after := #[{ on := 4, ground := Ground.data }], guard := none }) (v := ?vf54) rfl (by kernel_rfl) (by kernel_rfl) (by kernel_rfl) (fun _ _ _ h => h) (Or.inl ⟨by rfl, ?yf54⟩) hS ?_
        case yf54 =>
          intro w hSw
          have i4 : (4 : Int) < (l.length : Int) := by omega
          have i5 : (5 : Int) < (l.length : Int) := by omega
          have i6 : (6 : Int) < (l.length : Int) := by omega
          have i7 : (7 : Int) < (l.length : Int) := by omega
          go_simp; all_goals (with_reducible rfl)
        simp only [Act.put, List.setIfInBounds_toArray, List.set_cons_zero, List.set_cons_succ]
        refine wpAnyH_take (i := 6) (oi := { dst := some 41, op := Op.load 5 (Operand.tmp 40), type := 5, pos := "flags.go:84", after := #[{ on := 5, ground := Ground.data }], guard := none }) (v := ?vf55) rfl (by kernel_rfl) (by kernel_rfl) (by kernel_rfl) (fun _ _ _ h => h) (Or.inl ⟨by rfl, ?yf55⟩) hS ?_
        case yf55 =>
          intro w hSw
          obtain ⟨j0, j1, j2, j3⟩ := hSw
          go_simp; all_goals (with_reducible rfl)
        simp only [Act.put, List.setIfInBounds_toArray, List.set_cons_zero, List.set_cons_succ]
        refine wpAnyH_take (i := 7) (oi := { dst := some 42, op := Op.convert 5 53 (Operand.tmp 41), type := 53, pos := "flags.go:84", after := #[{ on := 6, ground := Ground.data }], guard := none }) (v := ?vf56) rfl (by kernel_rfl) (by kernel_rfl) (by kernel_rfl) (fun _ _ _ h => h) (Or.inl ⟨by rfl, ?yf56⟩) hS ?_
        case yf56 =>
          intro w hSw
          go_simp; all_goals (with_reducible rfl)
        simp only [Act.put, List.setIfInBounds_toArray, List.set_cons_zero, List.set_cons_succ]
        refine wpAnyH_take (i := 8) (oi := { dst := some 43, op := Op.binOp BinOp.shl 53 (Operand.tmp 42) (Operand.const (Value.int IntKind.u64 8)) 57, type := 53, pos := "flags.go:84", after := #[{ on := 7, ground := Ground.data }], guard := none }) (v := ?vf57) rfl (by kernel_rfl) (by kernel_rfl) (by kernel_rfl) (fun _ _ _ h => h) (Or.inl ⟨by rfl, ?yf57⟩) hS ?_
        case yf57 =>
          intro w hSw
          go_simp; all_goals (with_reducible rfl)
        simp only [Act.put, List.setIfInBounds_toArray, List.set_cons_zero, List.set_cons_succ]
        refine wpAnyH_take (i := 9) (oi := { dst := some 44, op := Op.binOp BinOp.or 53 (Operand.tmp 38) (Operand.tmp 43) 53, type := 53, pos := "flags.go:84", after := #[{ on := 3, ground := Ground.data }, { on := 8, ground := Ground.data }], guard := none }) (v := ?vf58) rfl (by kernel_rfl) (by kernel_rfl) (by kernel_rfl) (fun _ _ _ h => h) (Or.inl ⟨by rfl, ?yf58⟩) hS ?_
        case yf58 =>
          intro w hSw
          go_simp; all_goals (with_reducible rfl)
        simp only [Act.put, List.setIfInBounds_toArray, List.set_cons_zero, List.set_cons_succ]
        refine wpAnyH_take (i := 10) (oi := { dst := some 45, op := Op.move (Operand.tmp 0), type := 22, pos := "flags.go:84", after := #[], guard := none }) (v := ?vf59) rfl (by kernel_rfl) (by kernel_rfl) (by kernel_rfl) (fun _ _ _ h => h) (Or.inl ⟨by rfl, ?yf59⟩) hS ?_
        case yf59 =>
          intro w hSw
          go_simp; all_goals (with_reducible rfl)
        simp only [Act.put, List.setIfInBounds_toArray, List.set_cons_zero, List.set_cons_succ]
        refine wpAnyH_take (i := 11) (oi := { dst := some 46, op := Op.indexAddr 22 (Operand.tmp 45) (Operand.const (Value.int IntKind.i64 6)), type := 0, pos := "flags.go:84", after := #[{ on := 10, ground := Ground.data }], guard := none }) (v := ?vf60) rfl (by kernel_rfl) (by kernel_rfl) (by kernel_rfl) (fun _ _ _ h => h) (Or.inl ⟨by rfl, ?yf60⟩) hS ?_
        case yf60 =>
          intro w hSw
          have i4 : (4 : Int) < (l.length : Int) := by omega
          have i5 : (5 : Int) < (l.length : Int) := by omega
          have i6 : (6 : Int) < (l.length : Int) := by omega
          have i7 : (7 : Int) < (l.length : Int) := by omega
          go_simp; all_goals (with_reducible rfl)
        simp only [Act.put, List.setIfInBounds_toArray, List.set_cons_zero, List.set_cons_succ]
        refine wpAnyH_take (i := 12) (oi := { dst := some 47, op := Op.load 5 (Operand.tmp 46), type := 5, pos := "flags.go:84", after := #[{ on := 11, ground := Ground.data }], guard := none }) (v := ?vf61) rfl (by kernel_rfl) (by kernel_rfl) (by kernel_rfl) (fun _ _ _ h => h) (Or.inl ⟨by rfl, ?yf61⟩) hS ?_
        case yf61 =>
          intro w hSw
          obtain ⟨j0, j1, j2, j3⟩ := hSw
          go_simp; all_goals (with_reducible rfl)
        simp only [Act.put, List.setIfInBounds_toArray, List.set_cons_zero, List.set_cons_succ]
        refine wpAnyH_take (i := 13) (oi := { dst := some 48, op := Op.convert 5 53 (Operand.tmp 47), type := 53, pos := "flags.go:84", after := #[{ on := 12, ground := Ground.data }], guard := none }) (v := ?vf62) rfl (by kernel_rfl) (by kernel_rfl) (by kernel_rfl) (fun _ _ _ h => h) (Or.inl ⟨by rfl, ?yf62⟩) hS ?_
        case yf62 =>
          intro w hSw
          go_simp; all_goals (with_reducible rfl)
        simp only [Act.put, List.setIfInBounds_toArray, List.set_cons_zero, List.set_cons_succ]
        refine wpAnyH_take (i := 14) (oi := { dst := some 49, op := Op.binOp BinOp.shl 53 (Operand.tmp 48) (Operand.const (Value.int IntKind.u64 16)) 57, type := 53, pos := "flags.go:84", after := #[{ on := 13, ground := Ground.data }], guard := none }) (v := ?vf63) rfl (by kernel_rfl) (by kernel_rfl) (by kernel_rfl) (fun _ _ _ h => h) (Or.inl ⟨by rfl, ?yf63⟩) hS ?_
        case yf63 =>
          intro w hSw
          go_simp; all_goals (with_reducible rfl)
        simp only [Act.put, List.setIfInBounds_toArray, List.set_cons_zero, List.set_cons_succ]
        refine wpAnyH_take (i := 15) (oi := { dst := some 50, op := Op.binOp BinOp.or 53 (Operand.tmp 44) (Operand.tmp 49) 53, type := 53, pos := "flags.go:84", after := #[{ on := 9, ground := Ground.data }, { on := 14, ground := Ground.data }], guard := none }) (v := ?vf64) rfl (by kernel_rfl) (by kernel_rfl) (by kernel_rfl) (fun _ _ _ h => h) (Or.inl ⟨by rfl, ?yf64⟩) hS ?_
        case yf64 =>
          intro w hSw
          go_simp; all_goals (with_reducible rfl)
        simp only [Act.put, List.setIfInBounds_toArray, List.set_cons_zero, List.set_cons_succ]
        refine wpAnyH_take (i := 16) (oi := { dst := some 51, op := Op.move (Operand.tmp 0), type := 22, pos := "flags.go:84", after := #[], guard := none }) (v := ?vf65) rfl (by kernel_rfl) (by kernel_rfl) (by kernel_rfl) (fun _ _ _ h => h) (Or.inl ⟨by rfl, ?yf65⟩) hS ?_
        case yf65 =>
          intro w hSw
          go_simp; all_goals (with_reducible rfl)
        simp only [Act.put, List.setIfInBounds_toArray, List.set_cons_zero, List.set_cons_succ]
        refine wpAnyH_take (i := 17) (oi := { dst := some 52, op := Op.indexAddr 22 (Operand.tmp 51) (Operand.const (Value.int IntKind.i64 7)), type := 0, pos := "flags.go:84", after := #[{ on := 16, ground := Ground.data }], guard := none }) (v := ?vf66) rfl (by kernel_rfl) (by kernel_rfl) (by kernel_rfl) (fun _ _ _ h => h) (Or.inl ⟨by rfl, ?yf66⟩) hS ?_
        case yf66 =>
          intro w hSw
          have i4 : (4 : Int) < (l.length : Int) := by omega
          have i5 : (5 : Int) < (l.length : Int) := by omega
          have i6 : (6 : Int) < (l.length : Int) := by omega
          have i7 : (7 : Int) < (l.length : Int) := by omega
          go_simp; all_goals (with_reducible rfl)
        simp only [Act.put, List.setIfInBounds_toArray, List.set_cons_zero, List.set_cons_succ]
        refine wpAnyH_take (i := 18) (oi := { dst := some 53, op := Op.load 5 (Operand.tmp 52), type := 5, pos := "flags.go:84", after := #[{ on := 17, ground := Ground.data }], guard := none }) (v := ?vf67) rfl (by kernel_rfl) (by kernel_rfl) (by kernel_rfl) (fun _ _ _ h => h) (Or.inl ⟨by rfl, ?yf67⟩) hS ?_
        case yf67 =>
          intro w hSw
          obtain ⟨j0, j1, j2, j3⟩ := hSw
          go_simp; all_goals (with_reducible rfl)
        simp only [Act.put, List.setIfInBounds_toArray, List.set_cons_zero, List.set_cons_succ]
        refine wpAnyH_take (i := 19) (oi := { dst := some 54, op := Op.convert 5 53 (Operand.tmp 53), type := 53, pos := "flags.go:84", after := #[{ on := 18, ground := Ground.data }], guard := none }) (v := ?vf68) rfl (by kernel_rfl) (by kernel_rfl) (by kernel_rfl) (fun _ _ _ h => h) (Or.inl ⟨by rfl, ?yf68⟩) hS ?_
        case yf68 =>
          intro w hSw
          go_simp; all_goals (with_reducible rfl)
        simp only [Act.put, List.setIfInBounds_toArray, List.set_cons_zero, List.set_cons_succ]
        refine wpAnyH_take (i := 20) (oi := { dst := some 55, op := Op.binOp BinOp.shl 53 (Operand.tmp 54) (Operand.const (Value.int IntKind.u64 24)) 57, type := 53, pos := "flags.go:84", after := #[{ on := 19, ground := Ground.data }], guard := none }) (v := ?vf69) rfl (by kernel_rfl) (by kernel_rfl) (by kernel_rfl) (fun _ _ _ h => h) (Or.inl ⟨by rfl, ?yf69⟩) hS ?_
        case yf69 =>
          intro w hSw
          go_simp; all_goals (with_reducible rfl)
        simp only [Act.put, List.setIfInBounds_toArray, List.set_cons_zero, List.set_cons_succ]
        refine wpAnyH_take (i := 21) (oi := { dst := some 56, op := Op.binOp BinOp.or 53 (Operand.tmp 50) (Operand.tmp 55) 53, type := 53, pos := "flags.go:84", after := #[{ on := 15, ground := Ground.data }, { on := 20, ground := Ground.data }], guard := none }) (v := ?vf70) rfl (by kernel_rfl) (by kernel_rfl) (by kernel_rfl) (fun _ _ _ h => h) (Or.inl ⟨by rfl, ?yf70⟩) hS ?_
        case yf70 =>
          intro w hSw
          go_simp; all_goals (with_reducible rfl)
        simp only [Act.put, List.setIfInBounds_toArray, List.set_cons_zero, List.set_cons_succ]
        rw [HLE.out]
        refine wpAnyH_take (i := 22) (oi := { dst := some 7, op := Op.assign (Operand.tmp 56), type := 53, pos := "flags.go:84", after := #[{ on := 21, ground := Ground.data }, { on := 0, ground := Ground.phase }, { on := 1, ground := Ground.phase }, { on := 2, ground := Ground.phase }, { on := 3, ground := Ground.phase }, { on := 4, ground := Ground.phase }, { on := 5, ground := Ground.phase }, { on := 6, ground := Ground.phase }, { on := 7, ground := Ground.phase }, { on := 8, ground := Ground.phase }, { on := 9, ground := Ground.phase }, { on := 10, ground := Ground.phase }, { on := 11, ground := Ground.phase }, { on := 12, ground := Ground.phase }, { on := 13, ground := Ground.phase }, { on := 14, ground := Ground.phase }, { on := 15, ground := Ground.phase }, { on := 16, ground := Ground.phase }, { on := 17, ground := Ground.phase }, { on := 18, ground := Ground.phase }, { on := 19, ground := Ground.phase }, { on := 20, ground := Ground.phase }, { on := 21, ground := Ground.phase }], guard := none }) (v := ?vf71) rfl (by kernel_rfl) (by kernel_rfl) (by kernel_rfl) (fun _ _ _ h => h) (Or.inl ⟨by rfl, ?yf71⟩) hS ?_
        case yf71 =>
          intro w hSw
          go_simp; all_goals (with_reducible rfl)
        simp only [Act.put, List.setIfInBounds_toArray, List.set_cons_zero, List.set_cons_succ]
        refine wpAnyH_done (by kernel_rfl) ?_ _
        clear k4 k5 k6 k7
        obtain ⟨hNi, hN0⟩ := HNI.out
        go_wp2_with fail
        go_ret3
        exact ⟨ret3_mid (by omega), g7.drew⟩
      · have hr : readFootR l = (0, 0, R.2) := by rw [hrr, if_pos h3]
        rw [hr]
        have h3b : (R.2 == 0) = false := by simpa using h3
        clear hr hrr h3
        go_enter Tryd.func18, Tryd.ntmps18
        go_wp2_with fail
        have hdr : Below w.heap.size w w.drew := below_drew w
        refine wp_region_held_drew (S := fun w' => Below w.heap.size w w') (by kernel_rfl) hdr (fun hS => ?_)
        refine wpAnyH_take (i := 0) (oi := { dst := some 13, op := Op.move (Operand.tmp 0), type := 22, pos := "flags.go:75", after := #[], guard := none }) (v := ?vg72) rfl (by kernel_rfl) (by kernel_rfl) (by kernel_rfl) (fun _ _ _ h => h) (Or.inl ⟨by rfl, ?yg72⟩) hS ?_
        case yg72 =>
          intro w hSw
          go_simp; all_goals (with_reducible rfl)
        simp only [Act.put, List.setIfInBounds_toArray, List.set_cons_zero, List.set_cons_succ]
        refine wpAnyH_take (i := 1) (oi := { dst := some 14, op := Op.slice 22 (Operand.tmp 13) (some (Operand.const (Value.int IntKind.i64 10))) (some (Operand.const (Value.int IntKind.i64 12))) none, type := 22, pos := "flags.go:75", after := #[{ on := 0, ground := Ground.data }], guard := none }) (v := ?vg73) rfl (by kernel_rfl) (by kernel_rfl) (by kernel_rfl) (fun _ _ _ h => h) (Or.inl ⟨by rfl, ?yg73⟩) hS ?_
        case yg73 =>
          intro w hSw
          have i2 : (2 : Int) ≤ (c : Int) := by omega
          have i4 : (4 : Int) ≤ (c : Int) := by omega
          have i6 : (6 : Int) ≤ (c : Int) := by omega
          have i8 : (8 : Int) ≤ (c : Int) := by omega
          have i10 : (10 : Int) ≤ (c : Int) := by omega
          have n2 : ¬ c = 2 := by have := HK.out; omega
          have n4 : ¬ c = 4 := by have := HK.out; omega
          have n6 : ¬ c = 6 := by have := HK.out; omega
          have n8 : ¬ c = 8 := by have := HK.out; omega
          have n10 : ¬ c = 10 := by have := HK.out; omega
          go_simp; all_goals (with_reducible rfl)
        simp only [Act.put, List.setIfInBounds_toArray, List.set_cons_zero, List.set_cons_succ]
        refine wpAnyH_ready (rs := [2]) (by kernel_rfl) (by simp) ?_
        refine (AllReadyH.cons (o := { dst := some 15, op := Op.call { callee := Callee.value (Operand.func 23), args := #[], argTypes := #[] }, type := 22, pos := "flags.go:75", after := #[], guard := none }) rfl (fun K hK => ?_) AllReadyH.nil)
        go_simp
        refine (footMagic_any _).mono ?_
        rintro e w2 ⟨v2, rfl, ho2, hb2⟩
        have g2 : Below w.heap.size w w2 := hdr.trans (hb2.mono hdr.size)
        obtain ⟨A2, c2, rfl, hc2, hm2, hB2⟩ := ho2.read
        have HEQ := Lib.hid (equal_any _ _ _ _ (c - 10) c2 w2 (hBM.below g2) hB2)
        clear ho2 hb2 hB2
        go_wp2_with fail
        refine hK.out _ _ g2 (fun _ => ?_)
        clear hK K
        refine wpAnyH_ready (rs := [3]) (by kernel_rfl) (by simp) ?_
        refine (AllReadyH.cons (o := { dst := some 16, op := Op.call { callee := Callee.value (Operand.func 29), args := #[Operand.tmp 14, Operand.tmp 15], argTypes := #[22, 22] }, type := 4, pos := "flags.go:75", after := #[{ on := 1, ground := Ground.data }, { on := 2, ground := Ground.data }, { on := 2, ground := Ground.chain }], guard := none }) rfl (fun K hK => ?_) AllReadyH.nil)
        go_simp
        rw [HP1.out] at HEQ
        refine HEQ.out.mono ?_
        rintro e w3 ⟨rfl, rfl⟩
        rw [HD1.out]
        go_wp2_with fail
        refine hK.out _ _ g2 (fun _ => ?_)
        clear hK K
        refine wpAnyH_take (i := 4) (oi := { dst := some 17, op := Op.unOp UnOp.not 4 (Operand.tmp 16), type := 4, pos := "flags.go:75", after := #[{ on := 3, ground := Ground.data }], guard := none }) (v := ?vg74) rfl (by kernel_rfl) (by kernel_rfl) (by kernel_rfl) (fun _ _ _ h => h) (Or.inl ⟨by rfl, ?yg74⟩) g2 ?_
        case yg74 =>
          intro w hSw
          go_simp; all_goals (with_reducible rfl)
        simp only [Act.put, List.setIfInBounds_toArray, List.set_cons_zero, List.set_cons_succ]
        refine wpAnyH_take (i := 5) (oi := { dst := some 12, op := Op.assign (Operand.tmp 17), type := 4, pos := "flags.go:75", after := #[{ on := 4, ground := Ground.data }, { on := 3, ground := Ground.chain }], guard := none }) (v := ?vg75) rfl (by kernel_rfl) (by kernel_rfl) (by kernel_rfl) (fun _ _ _ h => h) (Or.inl ⟨by rfl, ?yg75⟩) g2 ?_
        case yg75 =>
          intro w hSw
          go_simp; all_goals (with_reducible rfl)
        simp only [Act.put, List.setIfInBounds_toArray, List.set_cons_zero, List.set_cons_succ]
        refine wpAnyH_done (by kernel_rfl) ?_ _
        go_wp2_with fail
        have hS2 : Below w.heap.size w w2.drew := g2.drew
        refine wp_region_held_drew (S := fun w' => Below w.heap.size w w') (by kernel_rfl) hS2 (fun hS => ?_)
        refine wpAnyH_take (i := 0) (oi := { dst := some 19, op := Op.move (Operand.tmp 0), type := 22, pos := "flags.go:77", after := #[], guard := none }) (v := ?vh76) rfl (by kernel_rfl) (by kernel_rfl) (by kernel_rfl) (fun _ _ _ h => h) (Or.inl ⟨by rfl, ?yh76⟩) hS ?_
        case yh76 =>
          intro w hSw
          go_simp; all_goals (with_reducible rfl)
        simp only [Act.put, List.setIfInBounds_toArray, List.set_cons_zero, List.set_cons_succ]
        refine wpAnyH_take (i := 1) (oi := { dst := some 20, op := Op.slice 22 (Operand.tmp 19) none (some (Operand.const (Value.int IntKind.i64 4))) none, type := 22, pos := "flags.go:77", after := #[{ on := 0, ground := Ground.data }], guard := none }) (v := ?vh77) rfl (by kernel_rfl) (by kernel_rfl) (by kernel_rfl) (fun _ _ _ h => h) (Or.inl ⟨by rfl, ?yh77⟩) hS ?_
        case yh77 =>
          intro w hSw
          have i2 : (2 : Int) ≤ (c : Int) := by omega
          have i4 : (4 : Int) ≤ (c : Int) := by omega
          have i6 : (6 : Int) ≤ (c : Int) := by omega
          have i8 : (8 : Int) ≤ (c : Int) := by omega
          have i10 : (10 : Int) ≤ (c : Int) := by omega
          have n2 : ¬ c = 2 := by have := HK.out; omega
          have n4 : ¬ c = 4 := by have := HK.out; omega
          have n6 : ¬ c = 6 := by have := HK.out; omega
          have n8 : ¬ c = 8 := by have := HK.out; omega
          have n10 : ¬ c = 10 := by have := HK.out; omega
          go_simp; all_goals (with_reducible rfl)
        simp only [Act.put, List.setIfInBounds_toArray, List.set_cons_zero, List.set_cons_succ]
        refine wpAnyH_take (i := 2) (oi := { dst := some 21, op := Op.move (Operand.tmp 0), type := 22, pos := "flags.go:77", after := #[], guard := none }) (v := ?vh78) rfl (by kernel_rfl) (by kernel_rfl) (by kernel_rfl) (fun _ _ _ h => h) (Or.inl ⟨by rfl, ?yh78⟩) hS ?_
        case yh78 =>
          intro w hSw
          go_simp; all_goals (with_reducible rfl)
        simp only [Act.put, List.setIfInBounds_toArray, List.set_cons_zero, List.set_cons_succ]
        refine wpAnyH_take (i := 3) (oi := { dst := some 22, op := Op.slice 22 (Operand.tmp 21) (some (Operand.const (Value.int IntKind.i64 4))) (some (Operand.const (Value.int IntKind.i64 10))) none, type := 22, pos := "flags.go:77", after := #[{ on := 2, ground := Ground.data }], guard := none }) (v := ?vh79) rfl (by kernel_rfl) (by kernel_rfl) (by kernel_rfl) (fun _ _ _ h => h) (Or.inl ⟨by rfl, ?yh79⟩) hS ?_
        case yh79 =>
          intro w hSw
          have i2 : (2 : Int) ≤ (c : Int) := by omega
          have i4 : (4 : Int) ≤ (c : Int) := by omega
          have i6 : (6 : Int) ≤ (c : Int) := by omega
          have i8 : (8 : Int) ≤ (c : Int) := by omega
          have i10 : (10 : Int) ≤ (c : Int) := by omega
          have n2 : ¬ c = 2 := by have := HK.out; omega
          have n4 : ¬ c = 4 := by have := HK.out; omega
          have n6 : ¬ c = 6 := by have := HK.out; omega
          have n8 : ¬ c = 8 := by have := HK.out; omega
          have n10 : ¬ c = 10 := by have := HK.out; omega
          go_simp; all_goals (with_reducible rfl)
        simp only [Act.put, List.setIfInBounds_toArray, List.set_cons_zero, List.set_cons_succ]
        refine wpAnyH_ready (rs := [4]) (by kernel_rfl) (by simp) ?_
        refine (AllReadyH.cons (o := { dst := some 23, op := Op.call { callee := Callee.value (Operand.func 12), args := #[Operand.const (Value.int IntKind.i64 1), Operand.tmp 22], argTypes := #[3, 22] }, type := 22, pos := "flags.go:77", after := #[{ on := 3, ground := Ground.data }], guard := none }) rfl (fun K hK => ?_) AllReadyH.nil)
        go_simp
        refine (HCS.out _ (HT.out.below hS2) (HBS.out.below hS2)).mono ?_
        rintro e w5 ⟨A5, c5, rfl, hc5, hm5, hB5, hb5⟩
        have g5 : Below w.heap.size w w5 := hS2.trans (hb5.mono hS2.size)
        have HEQ := Lib.hid (equal_any _ _ _ _ c c5 w5 (HBF.out.below g5) hB5)
        clear hb5 hB5
        rw [HD5.out]
        go_wp2_with fail
        refine hK.out _ _ g5 (fun _ => ?_)
        clear hK K
        refine wpAnyH_ready (rs := [5]) (by kernel_rfl) (by simp) ?_
        refine (AllReadyH.cons (o := { dst := some 24, op := Op.call { callee := Callee.value (Operand.func 29), args := #[Operand.tmp 20, Operand.tmp 23], argTypes := #[22, 22] }, type := 4, pos := "flags.go:77", after := #[{ on := 1, ground := Ground.data }, { on := 4, ground := Ground.data }, { on := 4, ground := Ground.chain }], guard := none }) rfl (fun K hK => ?_) AllReadyH.nil)
        go_simp
        rw [HP2.out, HD5.out] at HEQ
        refine HEQ.out.mono ?_
        rintro e w6 ⟨rfl, rfl⟩
        rw [HD2.out]
        go_wp2_with fail
        refine hK.out _ _ g5 (fun _ => ?_)
        clear hK K
        refine wpAnyH_take (i := 6) (oi := { dst := some 25, op := Op.unOp UnOp.not 4 (Operand.tmp 24), type := 4, pos := "flags.go:77", after := #[{ on := 5, ground := Ground.data }], guard := none }) (v := ?vh80) rfl (by kernel_rfl) (by kernel_rfl) (by kernel_rfl) (fun _ _ _ h => h) (Or.inl ⟨by rfl, ?yh80⟩) g5 ?_
        case yh80 =>
          intro w hSw
          go_simp; all_goals (with_reducible rfl)
        simp only [Act.put, List.setIfInBounds_toArray, List.set_cons_zero, List.set_cons_succ]
        refine wpAnyH_take (i := 7) (oi := { dst := some 18, op := Op.assign (Operand.tmp 25), type := 4, pos := "flags.go:77", after := #[{ on := 6, ground := Ground.data }, { on := 5, ground := Ground.chain }], guard := none }) (v := ?vh81) rfl (by kernel_rfl) (by kernel_rfl) (by kernel_rfl) (fun _ _ _ h => h) (Or.inl ⟨by rfl, ?yh81⟩) g5 ?_
        case yh81 =>
          intro w hSw
          go_simp; all_goals (with_reducible rfl)
        simp only [Act.put, List.setIfInBounds_toArray, List.set_cons_zero, List.set_cons_succ]
        refine wpAnyH_done (by kernel_rfl) ?_ _
        go_wp2_with fail
        refine (HRF.out w5 (by have := HB8.out.below g5; rw [HPT.out] at this; exact this)).mono ?_
        rintro e w7 ⟨rfl, hb7⟩
        go_wp2_with fail
        go_ret3
        exact ⟨rfl, g5.trans (hb7.mono g5.size)⟩
end Go.Proofs.YtibkhajhmncgkaaDoor
