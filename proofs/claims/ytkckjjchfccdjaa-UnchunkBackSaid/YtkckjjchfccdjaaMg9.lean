/- Several texts in one: MdLen, MdSlot, MdDist, MdCtx. -/
import Derived.Test.YtkckjjchfccdjaaMdTree
import Derived.Test.YtkckjjchfccdjaaMg5
import Derived.Test.YtkckjjchfccdjaaMg4
import Derived.Lib.MinMax
import Derived.Test.YtkckjjchfccdjaaMg1
/- The model's lengths. -/
namespace Go.Proofs.Ytkckjjchfccdjaa
set_option maxRecDepth 100000
open Go.RowKit

namespace Md
/-- A length's bits: A, the first of its chances; p, the place. -/
def len (io : Io) (A p : Nat) (l : Int) (x : io.S) : Nat × io.S :=
  let y := io.bitAt A (decide (8 ≤ l - 2)) x
  if y.1 = false then (2 + (tree io (A + 2 + 8 * p) 3 (l - 2) y.2).1, (tree io (A + 2 + 8 * p) 3 (l - 2) y.2).2)
  else
    let z := io.bitAt (A + 1) (decide (16 ≤ l - 2)) y.2
    if z.1 = false then (10 + (tree io (A + 130 + 8 * p) 3 (l - 2 - 8) z.2).1, (tree io (A + 130 + 8 * p) 3 (l - 2 - 8) z.2).2)
    else (18 + (tree io (A + 258) 8 (l - 2 - 16) z.2).1, (tree io (A + 258) 8 (l - 2 - 16) z.2).2)
end Md
/-- What a call comes to, and something beside it. -/
def MAnd (Q : Prop) (D : Ending → World → Prop) (e : Ending) (w' : World) : Prop := D e w' ∧ Q
set_option maxRecDepth 100000 in
set_option maxHeartbeats 1000000 in
theorem len_is (io : Io) {C L lc lp pb st : Nat} {r : R4} {x : io.S} {X : List Nat} {w : World} (hM : MS io w C L lc lp pb st r x X) {A p k : Nat} {l : Int} {R : Nat} {Z : io.S} (hR : Md.len io A p l x = (R, Z)) (hok : io.ok x.2 (k + 10)) (hA : A = 432 ∨ A = 946) (hp : p < 16) (hl0 : 0 ≤ l) (hl1 : l ≤ 300) :
    Calls Try.prog 100 #[.pointer (some ⟨C, 9 + A, none⟩), io.v, .int .i64 (p : Nat), .int .i64 l] w (MAnd (2 ≤ R ∧ R ≤ 273 ∧ io.ok Z.2 k) (MDone (.int .i64 (R : Nat)) io C L lc lp pb st r Z X w)) := by
  have hpi : (p : Int) < 16 := by omega
  have HA : Hid (A = 432 ∨ A = 946) := Lib.hid hA
  unfold Md.len at hR
  obtain ⟨⟨B, y⟩, hy⟩ : ∃ z, io.bitAt A (decide (8 ≤ l - 2)) x = z := ⟨_, rfl⟩
  obtain ⟨h1, ok1⟩ := bit_is io hM hy (at_ := A) (j := 0) (len := 2) (cp := 2) (b := C) (off := 9 + A) rfl (k := k + 9) hok (Md.seg_mid rfl (by omega) (by omega)) (by omega) (by omega) (by omega)
  rw [hy] at hR
  simp only at hR
  have H1 := Lib.hid h1
  have HOK1 := Lib.hid ok1
  have HR := Lib.hid hR
  clear hA hok hy hR h1 ok1
  go_enter Try.func100, Try.ntmps100
  go_wp2_with fail
  refine H1.out.mono ?_
  rintro e w1 ⟨rfl, X1, hM1, hon1, hX1⟩
  have HM1 := Lib.hid hM1
  have HO1 := Lib.hid (And.intro hon1 hX1)
  clear hM1 hon1 hX1 H1
  cases B with
  | false =>
    have hb : bitI false = 0 := rfl
    rw [hb]
    have hR := HR.out
    simp only [if_true] at hR
    obtain ⟨⟨tv, z⟩, hz⟩ : ∃ q, Md.tree io (A + 2 + 8 * p) 3 (l - 2) y = q := ⟨_, rfl⟩
    obtain ⟨h2, htv, ok2⟩ := tree_is io HM1.out hz (len := 8) (cp := 8) (b := C) (off := 9 + A + 2 + p * 8) (k := k) (io.le HOK1.out (by omega)) (Md.seg_mid (by omega) (by have := HA.out; omega) (by have := HA.out; omega)) (by omega) (by omega) (by omega) (by omega)
    rw [hz] at hR
    injection hR with hR1 hR2
    have HRE := Lib.hid (And.intro hR1.symm hR2.symm)
    clear hR1 hR2
    have H2 := Lib.hid h2
    have htvi : (tv : Int) < 8 := by omega
    have HOK2 := Lib.hid ok2
    clear hz hb h2 ok2
    go_wp2_with fail
    refine H2.out.mono ?_
    rintro e w2 ⟨rfl, hw2⟩
    go_wp2_with fail
    go_ret
    obtain ⟨e1, e2⟩ := HRE.out
    subst e1 e2
    exact ⟨⟨by go_num, Went.trans HO1.out.1 HO1.out.2 hw2⟩, by omega, by omega, HOK2.out⟩
  | true =>
    have hb : bitI true = 1 := rfl
    rw [hb]
    have hR := HR.out
    simp only [Bool.true_eq_false, if_false] at hR
    obtain ⟨⟨B, y2⟩, hy⟩ : ∃ q, io.bitAt (A + 1) (decide (16 ≤ l - 2)) y = q := ⟨_, rfl⟩
    obtain ⟨h1, ok1⟩ := bit_is io HM1.out hy (at_ := A) (j := 1) (len := 2) (cp := 2) (b := C) (off := 9 + A) rfl (k := k + 8) HOK1.out (Md.seg_mid rfl (by have := HA.out; omega) (by have := HA.out; omega)) (by omega) (by omega) (by omega)
    rw [hy] at hR
    simp only at hR
    have H1 := Lib.hid h1
    have HOK1b := Lib.hid ok1
    have HRb := Lib.hid hR
    clear hy hR h1 ok1 hb
    go_wp2_with fail
    refine H1.out.mono ?_
    rintro e w2 ⟨rfl, hw2⟩
    obtain ⟨X2, hM2, hon2, hX2⟩ := Went.trans HO1.out.1 HO1.out.2 hw2
    have HM2 := Lib.hid hM2
    have HO2 := Lib.hid (And.intro hon2 hX2)
    clear hM2 hon2 hX2 H1 hw2
    cases B with
    | false =>
      have hb : bitI false = 0 := rfl
      rw [hb]
      have hR := HRb.out
      simp only [if_true] at hR
      obtain ⟨⟨tv, z⟩, hz⟩ : ∃ q, Md.tree io (A + 130 + 8 * p) 3 (l - 2 - 8) y2 = q := ⟨_, rfl⟩
      obtain ⟨h2, htv, ok2⟩ := tree_is io HM2.out hz (len := 8) (cp := 8) (b := C) (off := 9 + A + 130 + p * 8) (k := k) (io.le HOK1b.out (by omega)) (Md.seg_mid (by omega) (by have := HA.out; omega) (by have := HA.out; omega)) (by omega) (by omega) (by omega) (by omega)
      rw [hz] at hR
      injection hR with hR1 hR2
      have HRE := Lib.hid (And.intro hR1.symm hR2.symm)
      clear hR1 hR2
      have H2 := Lib.hid h2
      have htvi : (tv : Int) < 8 := by omega
      have HOK2 := Lib.hid ok2
      clear hz hb h2 ok2
      go_wp2_with fail
      refine H2.out.mono ?_
      rintro e w3 ⟨rfl, hw3⟩
      go_wp2_with fail
      go_ret
      obtain ⟨e1, e2⟩ := HRE.out
      subst e1 e2
      exact ⟨⟨by go_num, Went.trans HO2.out.1 HO2.out.2 hw3⟩, by omega, by omega, HOK2.out⟩
    | true =>
      have hb : bitI true = 1 := rfl
      rw [hb]
      have hR := HRb.out
      simp only [Bool.true_eq_false, if_false] at hR
      obtain ⟨⟨tv, z⟩, hz⟩ : ∃ q, Md.tree io (A + 258) 8 (l - 2 - 16) y2 = q := ⟨_, rfl⟩
      obtain ⟨h2, htv, ok2⟩ := tree_is io HM2.out hz (len := 256) (cp := 256) (b := C) (off := 9 + A + 258) (k := k) (io.le HOK1b.out (by omega)) (Md.seg_mid (by omega) (by have := HA.out; omega) (by have := HA.out; omega)) (by omega) (by omega) (by omega) (by omega)
      rw [hz] at hR
      injection hR with hR1 hR2
      have HRE := Lib.hid (And.intro hR1.symm hR2.symm)
      clear hR1 hR2
      have H2 := Lib.hid h2
      have htvi : (tv : Int) < 256 := by omega
      have HOK2 := Lib.hid ok2
      clear hz hb h2 ok2
      go_wp2_with fail
      refine H2.out.mono ?_
      rintro e w3 ⟨rfl, hw3⟩
      go_wp2_with fail
      go_ret
      obtain ⟨e1, e2⟩ := HRE.out
      subst e1 e2
      exact ⟨⟨by go_num, Went.trans HO2.out.1 HO2.out.2 hw3⟩, by omega, by omega, HOK2.out⟩
end Go.Proofs.Ytkckjjchfccdjaa

/- The model's slotOf. -/
namespace Go.Proofs.Ytkckjjchfccdjaa
set_option maxRecDepth 100000
open Go.RowKit

def slotN (d : Nat) : Nat := if d < 4 then d else 2 * Lib.bitLen d - 2 + d / 2 ^ (Lib.bitLen d - 2) % 2
theorem bitLen_range {d : Nat} (h4 : 4 ≤ d) (h : d < 4294967296) : 3 ≤ Lib.bitLen d ∧ Lib.bitLen d ≤ 32 := by
  rw [Lib.bitLen_shift 2 d h4 (by omega)]
  have h5 : d / 2 ^ 2 ≠ 0 := by omega
  rw [Lib.bitLen_half (d / 2 ^ 2) h5 (by omega)]
  have h6 : d / 2 ^ 2 / 2 < 2 ^ 29 := by omega
  have h7 : ∀ (f x : Nat), x < 2 ^ f → Lib.bitLenAux 64 x ≤ f ∨ 64 < f := fun f x hx => by
    by_cases hf : f ≤ 64
    · left
      rw [Lib.bitLenAux_fuel f x hx 64 hf]
      clear hx hf
      induction f generalizing x with
      | zero => exact Nat.le_refl _
      | succ f ih =>
        unfold Lib.bitLenAux
        split
        · omega
        · have := ih (x / 2); omega
    · right; omega
  have h8 := h7 29 _ h6
  unfold Lib.bitLen
  omega
theorem slotN_lt {d : Nat} (h : d < 4294967296) : slotN d < 64 := by
  unfold slotN
  split
  · omega
  · have := bitLen_range (d := d) (by omega) h
    omega
theorem u32_and_one (x : Nat) (hx : x < 4294967296) : bits .and .u32 (x : Int) 1 = ((x % 2 : Nat) : Int) := by
  rw [show (1 : Int) = ((1 : Nat) : Int) from rfl, u32_and_nat _ _ (by omega) (by omega), nat_mask1]
set_option maxRecDepth 100000 in
set_option maxHeartbeats 1000000 in
theorem slot_any (d : Nat) (hd : d < 4294967296) (w : World) : Calls Try.prog 108 #[.int .u32 (d : Nat)] w fun e w' => e = .returned (.int .i64 (slotN d : Nat)) ∧ w = w' := by
  by_cases h4 : d < 4
  · have h4i : (d : Int) < 4 := by omega
    have HS : Hid (slotN d = d) := Lib.hid (by unfold slotN; rw [if_pos h4])
    rw [HS.out]
    go_enter Try.func108, Try.ntmps108
    go_wp2_with fail
    go_ret
    exact ⟨rfl, rfl⟩
  · have h4i : ¬ (d : Int) < 4 := by omega
    obtain ⟨n1, n2⟩ := bitLen_range (d := d) (by omega) hd
    have HL := Lib.hid (Shelf_bits_Len32 (d : Nat) w (by omega) (by omega))
    obtain ⟨S, hS⟩ : ∃ S, slotN d = S := ⟨_, rfl⟩
    rw [hS]
    unfold slotN at hS
    rw [if_neg h4] at hS
    rw [Int.toNat_natCast] at HL
    generalize Lib.bitLen d = n at *
    have hn1 : (3 : Int) ≤ (n : Int) := by omega
    have hn2 : (n : Int) ≤ 32 := by omega
    have HS := Lib.hid hS
    clear hS
    go_enter Try.func108, Try.ntmps108
    go_wp2_with fail
    refine HL.out.mono ?_
    rintro e w1 ⟨rfl, rfl⟩
    go_wp2_with fail
    go_ret
    refine ⟨congrArg (fun n : Int => Ending.returned (Value.int .i64 n)) ?_, rfl⟩
    rw [← HS.out]
    have e : (d : Int) / 2 ^ (n - 2) = ((d / 2 ^ (n - 2) : Nat) : Int) := by simp
    have hle : d / 2 ^ (n - 2) ≤ d := Nat.div_le_self _ _
    rw [e, u32_and_one _ (by omega)]
    unfold wrap64
    omega
end Go.Proofs.Ytkckjjchfccdjaa

/- The model's distances. -/
namespace Go.Proofs.Ytkckjjchfccdjaa
set_option maxRecDepth 100000
open Go.RowKit

namespace Md
/-- A distance's bits, behind a length. -/
def dist (io : Io) (l : Nat) (dd : Int) (x : io.S) : Nat × io.S :=
  let d : Nat := ((dd - 1) % 4294967296).toNat
  let y := tree io (1460 + 64 * min (l - 2) 3) 6 (slotN d : Nat) x
  if y.1 < 4 then (y.1 + 1, y.2)
  else if y.1 < 14 then
    let z := rev io (1716 + 32 * y.1) (y.1 / 2 - 1) (d : Nat) y.2
    ((2 + y.1 % 2) * 2 ^ (y.1 / 2 - 1) + z.1 + 1, z.2)
  else
    let q := io.plain y.2.2 (d / 16 % 2 ^ (y.1 / 2 - 1 - 4)) (y.1 / 2 - 1 - 4)
    let z := rev io 2164 4 (d : Nat) (y.2.1, q.2)
    ((2 + y.1 % 2) * 2 ^ (y.1 / 2 - 1) + q.1 % 2 ^ (y.1 / 2 - 1 - 4) * 16 + z.1 + 1, z.2)
end Md
set_option maxRecDepth 100000 in
set_option maxHeartbeats 2000000 in
theorem dist_is (io : Io) {C L lc lp pb st : Nat} {r : R4} {x : io.S} {X : List Nat} {w : World} (hM : MS io w C L lc lp pb st r x X) {l k : Nat} {dd : Int} {R : Nat} {Z : io.S} (hR : Md.dist io l dd x = (R, Z)) (hok : io.ok x.2 (k + 42)) (hl : 2 ≤ l) (hl1 : l ≤ 300) (hd0 : 0 ≤ dd) (hd1 : dd ≤ 4294967295) :
    Calls Try.prog 101 #[.pointer (some ⟨C, 1469, none⟩), io.v, .int .i64 (l : Nat), .int .i64 dd] w (MAnd (1 ≤ R ∧ R ≤ 4294967296 ∧ io.ok Z.2 k) (MDone (.int .i64 (R : Nat)) io C L lc lp pb st r Z X w)) := by
  obtain ⟨D, hD'⟩ : ∃ D : Nat, ((dd - 1) % 4294967296).toNat = D := ⟨_, rfl⟩
  have hD : D < 4294967296 := by omega
  have hDi : IntKind.u32.wrap (dd - 1) = (D : Int) := by rw [IntKind.wrap_u32]; omega
  unfold Md.dist at hR
  rw [hD'] at hR
  have hmi : min (IntKind.i64.wrap ((l : Int) - 2)) 3 = ((min (l - 2) 3 : Nat) : Int) := by rw [IntKind.wrap_i64]; omega
  obtain ⟨K, hK⟩ : ∃ K, min (l - 2) 3 = K := ⟨_, rfl⟩
  have hK3 : K ≤ 3 := by omega
  rw [hK] at hR hmi
  obtain ⟨⟨slot, y⟩, hy⟩ : ∃ q, Md.tree io (1460 + 64 * K) 6 (slotN D : Nat) x = q := ⟨_, rfl⟩
  obtain ⟨h1, hsl, ok1⟩ := tree_is io (hM.drewN 1) hy (len := 64) (cp := 64) (b := C) (off := 1469 + K * 64) (k := k + 36) (io.le hok (by omega)) (Md.seg_mid (by omega) (by omega) (by omega)) (by omega) (by omega) (by omega) (by omega)
  simp only [hy] at hR
  have HT := Lib.hid h1
  have HR := Lib.hid hR
  have HOK := Lib.hid ok1
  have hsli : (slot : Int) < 64 := by omega
  have hKi : (K : Int) < 4 := by omega
  clear hR h1 ok1 hy hok
  have hdr : True := trivial
  go_enter Try.func101, Try.ntmps101
  go_upto_region 2 with fail
  refine wp_region_held_drew (S := fun _ => True) (by kernel_rfl) hdr (fun hS => ?_)
  refine tk 0 (v := ?vds1) ?yds1 hS ?_
  case yds1 =>
    intro w hSw
    go_simp; all_goals (with_reducible rfl)
  simp only [Act.put, List.setIfInBounds_toArray, List.set_cons_zero, List.set_cons_succ]
  refine tk 1 (v := ?vds2) ?yds2 hS ?_
  case yds2 =>
    intro w hSw
    go_simp; all_goals (with_reducible rfl)
  simp only [Act.put, List.setIfInBounds_toArray, List.set_cons_zero, List.set_cons_succ]
  refine tk 2 (v := ?vds3) ?yds3 hS ?_
  case yds3 =>
    intro w hSw
    go_simp; all_goals (with_reducible rfl)
  simp only [Act.put, List.setIfInBounds_toArray, List.set_cons_zero, List.set_cons_succ]
  refine tk 3 (v := ?vds4) ?yds4 hS ?_
  case yds4 =>
    intro w hSw
    go_simp; all_goals (with_reducible rfl)
  simp only [Act.put, List.setIfInBounds_toArray, List.set_cons_zero, List.set_cons_succ]
  refine tk 4 (v := ?vds5) ?yds5 hS ?_
  case yds5 =>
    intro w hSw
    go_simp; all_goals (with_reducible rfl)
  simp only [Act.put, List.setIfInBounds_toArray, List.set_cons_zero, List.set_cons_succ]
  refine tk 5 (v := ?vds6) ?yds6 hS ?_
  case yds6 =>
    intro w hSw
    go_simp; all_goals (with_reducible rfl)
  simp only [Act.put, List.setIfInBounds_toArray, List.set_cons_zero, List.set_cons_succ]
  refine tk 6 (v := ?vds7) ?yds7 hS ?_
  case yds7 =>
    intro w hSw
    go_simp; all_goals (with_reducible rfl)
  simp only [Act.put, List.setIfInBounds_toArray, List.set_cons_zero, List.set_cons_succ]
  refine tk 7 (v := ?vds8) ?yds8 hS ?_
  case yds8 =>
    intro w hSw
    go_simp; all_goals (with_reducible rfl)
  simp only [Act.put, List.setIfInBounds_toArray, List.set_cons_zero, List.set_cons_succ]
  refine tk 8 (v := ?vds9) ?yds9 hS ?_
  case yds9 =>
    intro w hSw
    go_simp; all_goals (with_reducible rfl)
  simp only [Act.put, List.setIfInBounds_toArray, List.set_cons_zero, List.set_cons_succ]
  refine tk 9 (v := ?vds10) ?yds10 hS ?_
  case yds10 =>
    intro w hSw
    go_simp; all_goals (with_reducible rfl)
  simp only [Act.put, List.setIfInBounds_toArray, List.set_cons_zero, List.set_cons_succ]
  refine wpAnyH_ready (rs := [10]) (by kernel_rfl) (by simp) ?_
  refine (AllReadyH.cons (o := { dst := some 28, op := Op.call { callee := Callee.value (Operand.func 108), args := #[Operand.tmp 27], argTypes := #[31] }, type := 3, pos := "model.go:234", after := #[{ on := 9, ground := Ground.data }], guard := none }) rfl (fun K hK => ?_) AllReadyH.nil)
  go_simp
  refine (slot_any D hD _).mono ?_
  rintro e x4 ⟨rfl, rfl⟩
  go_wp2_with fail
  refine hK.out _ _ hdr (fun _ => ?_)
  clear hK K
  refine wpAnyH_ready (rs := [11]) (by kernel_rfl) (by simp) ?_
  refine (AllReadyH.cons (o := { dst := some 29, op := Op.call { callee := Callee.value (Operand.func 107), args := #[Operand.tmp 18, Operand.tmp 26, Operand.const (Value.int IntKind.i64 6), Operand.tmp 28], argTypes := #[163, 92, 3, 3] }, type := 3, pos := "model.go:234", after := #[{ on := 0, ground := Ground.data }, { on := 8, ground := Ground.data }, { on := 10, ground := Ground.data }, { on := 10, ground := Ground.chain }], guard := none }) rfl (fun K hK => ?_) AllReadyH.nil)
  go_simp
  refine HT.out.mono ?_
  rintro e x5 ⟨rfl, X1, hM1, hon1, hX1⟩
  have g5 := Lib.hid (And.intro hon1 hX1)
  clear hon1 hX1
  go_wp2_with fail
  refine hK.out _ _ trivial (fun _ => ?_)
  clear hK K
  refine tk 12 (v := ?vds11) ?yds11 trivial ?_
  case yds11 =>
    intro w hSw
    go_simp; all_goals (with_reducible rfl)
  simp only [Act.put, List.setIfInBounds_toArray, List.set_cons_zero, List.set_cons_succ]
  refine wpAnyH_done (by kernel_rfl) ?_ _

  have HM1 := Lib.hid hM1
  clear hS hdr hM1 HT
  have hR := HR.out
  by_cases h4 : slot < 4
  · have h4i : (slot : Int) < 4 := by omega
    rw [if_pos h4] at hR
    injection hR with hR1 hR2
    have HRE := Lib.hid (And.intro hR1.symm hR2.symm)
    clear hR1 hR2 h4
    go_wp2_with fail
    go_ret
    obtain ⟨e1, e2⟩ := HRE.out
    subst e1 e2
    exact ⟨⟨by go_num, X1, HM1.out, Only.undrewN g5.out.1, g5.out.2⟩, by omega, by omega, io.le HOK.out (by omega)⟩
  · have h4i : ¬ (slot : Int) < 4 := by omega
    rw [if_neg h4] at hR
    obtain ⟨n, hn⟩ : ∃ n, slot / 2 - 1 = n := ⟨_, rfl⟩
    have hni : (slot : Int) / 2 - 1 = (n : Int) := by omega
    have hn30 : n ≤ 30 := by omega
    have hp30 : 2 ^ n ≤ 2 ^ 30 := Nat.pow_le_pow_right (by omega) hn30
    obtain ⟨TOP, hT⟩ : ∃ T, (2 + slot % 2) * 2 ^ n = T := ⟨_, rfl⟩
    have hTOP : TOP ≤ 3 * 2 ^ 30 := by rw [← hT]; exact Nat.mul_le_mul (by omega) hp30
    have htop : wrap64 (wrap64 (2 + bits .and .i64 (slot : Int) 1) * 2 ^ n) = (TOP : Int) := by
      rw [i64_and_one, show (2 : Int) + (slot : Int) % 2 = ((2 + slot % 2 : Nat) : Int) by omega]
      have e1 : wrap64 ((2 + slot % 2 : Nat) : Int) = ((2 + slot % 2 : Nat) : Int) := by unfold wrap64; omega
      rw [e1, show (2 : Int) ^ n = ((2 ^ n : Nat) : Int) by simp, ← Int.natCast_mul, hT]
      unfold wrap64; omega
    have hTi : (TOP : Int) ≤ 3221225472 := by omega
    rw [hn, hT] at hR
    by_cases h14 : slot < 14
    · have h14i : (slot : Int) < 14 := by omega
      rw [if_pos h14] at hR
      obtain ⟨⟨t, z⟩, hz⟩ : ∃ q, Md.rev io (1716 + 32 * slot) n (D : Nat) y = q := ⟨_, rfl⟩
      have h2n : 2 ^ n ≤ 2 ^ 5 := Nat.pow_le_pow_right (by omega) (by omega)
      obtain ⟨h2, ht, ok2⟩ := rev_is io HM1.out hz (len := 32) (cp := 32) (b := C) (off := 1725 + (slot - 4) * 32) (k := k) (io.le HOK.out (by omega)) (Md.seg_tail (by omega) (by omega) (by omega)) (by omega) (by omega) (by omega) (by omega)
      simp only [hz] at hR
      injection hR with hR1 hR2
      have HRE := Lib.hid (And.intro hR1.symm hR2.symm)
      have H2 := Lib.hid h2
      have HOK2 := Lib.hid ok2
      have hti : (t : Int) < 32 := by omega
      have HN := Lib.hid hn
      have HTT := Lib.hid (And.intro hTOP ht)
      clear hR1 hR2 h4 hn hn30 hp30 hT hTOP h2n ht h2 ok2 hz h14
      go_wp2_with fail
      refine H2.out.mono ?_
      rintro e x6 ⟨rfl, hw6⟩
      go_wp2_with fail
      go_ret
      obtain ⟨e1, e2⟩ := HRE.out
      subst e1 e2
      exact ⟨⟨by go_num, Went.trans (Only.undrewN g5.out.1) g5.out.2 hw6⟩, by omega, by have := HTT.out; omega, HOK2.out⟩
    · have h14i : ¬ (slot : Int) < 14 := by omega
      rw [if_neg h14] at hR
      obtain ⟨m, hm⟩ : ∃ m, n - 4 = m := ⟨_, rfl⟩
      have hmi : (n : Int) - 4 = (m : Int) := by omega
      have hm26 : m ≤ 26 := by omega
      have hp26 : 2 ^ m ≤ 2 ^ 26 := Nat.pow_le_pow_right (by omega) hm26
      have hp1 : 1 ≤ 2 ^ m := Nat.one_le_two_pow
      rw [hm] at hR
      obtain ⟨M, hM'⟩ : ∃ M, 2 ^ m - 1 = M := ⟨_, rfl⟩
      have hmask : ((2 : Int) ^ m - 1) % 4294967296 = (M : Int) := by
        rw [show (2 : Int) ^ m = ((2 ^ m : Nat) : Int) by simp]; omega
      obtain ⟨V, hV⟩ : ∃ V, D / 16 % 2 ^ m = V := ⟨_, rfl⟩
      have hVlt : V < 2 ^ m := by rw [← hV]; exact Nat.mod_lt _ (by omega)
      have hand : bits .and .u32 ((D : Int) / 16) (M : Int) = (V : Int) := by
        rw [show (D : Int) / 16 = ((D / 16 : Nat) : Int) by omega, u32_and_nat _ _ (by omega) (by omega), ← hM', Nat.and_two_pow_sub_one_eq_mod, hV]
      have hVm : V % 2 ^ m = V := Nat.mod_eq_of_lt hVlt
      rw [hV] at hR
      obtain ⟨⟨q, s2⟩, hq⟩ : ∃ z, io.plain y.2 V m = z := ⟨_, rfl⟩
      obtain ⟨h2, hq2, ok2⟩ := plain_is io HM1.out (v := V) (m := m) (q := q) (s2 := s2) (k := k + 4) (by rw [hVm]; exact hq) HOK.out (by omega) (by omega)
      simp only [hq] at hR
      rw [Nat.mod_eq_of_lt hq2] at hR
      have hqi : (q : Int) < 67108864 := by omega
      have hand2 : bits .and .u32 (q : Int) (M : Int) = (q : Int) := by
        rw [u32_and_nat _ _ (by omega) (by omega), ← hM', Nat.and_two_pow_sub_one_eq_mod, Nat.mod_eq_of_lt hq2]
      obtain ⟨⟨t, z⟩, hz⟩ : ∃ q, Md.rev io 2164 4 (D : Nat) (y.1, s2) = q := ⟨_, rfl⟩
      simp only [hz] at hR
      injection hR with hR1 hR2
      have HRE := Lib.hid (And.intro hR1.symm hR2.symm)
      have HZ := Lib.hid hz
      have HOK2 := Lib.hid ok2
      have HTT := Lib.hid (And.intro hTOP hq2)
      have hmeth := io.meth
      have H26 := Lib.hid hp26
      rcases io.kind with hF | hF
      all_goals
        have H2 := Lib.hid h2
        rw [hF] at H2
      all_goals
        clear hR1 hR2 hn hn30 hp30 hT hTOP h2 ok2 hz h14 hm hp26 hM' hV hVlt hVm hq hq2 hp1 h4
        go_wp2_with fail
        refine H2.out.mono ?_
        rintro e x6 ⟨rfl, hw6⟩
        obtain ⟨X2, hM2, hon2, hX2⟩ := Went.trans (Only.undrewN g5.out.1) g5.out.2 hw6
        obtain ⟨h3, ht, ok3⟩ := rev_is io hM2 HZ.out (len := 16) (cp := 16) (b := C) (off := 2045) (k := k) (io.le HOK2.out (by omega)) (Md.seg_tail (by omega) (by omega) (by omega)) (by omega) (by omega) (by omega) (by omega)
        have H3 := Lib.hid h3
        have hti : (t : Int) < 16 := by omega
        have HT3 := Lib.hid (And.intro ht ok3)
        have HO2 := Lib.hid (And.intro hon2 hX2)
        clear hon2 hX2 hM2 hw6 h3 ht ok3
        go_wp2_with fail
        refine H3.out.mono ?_
        rintro e x7 ⟨rfl, hw7⟩
        go_wp2_with fail
        go_ret
        obtain ⟨e1, e2⟩ := HRE.out
        subst e1 e2
        have h26 := H26.out
        have htt := HTT.out
        exact ⟨⟨by go_num, Went.trans HO2.out.1 HO2.out.2 hw7⟩, by omega, by have := HT3.out; omega, HT3.out.2⟩
end Go.Proofs.Ytkckjjchfccdjaa

/- The model's states; its context. -/
namespace Go.Proofs.Ytkckjjchfccdjaa
set_option maxRecDepth 100000
open Go.RowKit

def litState (st : Nat) : Nat := if st < 4 then 0 else if st < 10 then st - 3 else st - 6
def ctxN (lc lp : Nat) (H : List UInt8) : Nat := H.length % 2 ^ lp * 2 ^ lc + (if 0 < H.length then (H.getD (H.length - 1) 0).toNat else 0) / 2 ^ (8 - lc)
theorem ctxN_lt {lc lp : Nat} (H : List UInt8) (hlc : lc ≤ 8) : ctxN lc lp H < 2 ^ (lc + lp) := by
  unfold ctxN
  have h1 : H.length % 2 ^ lp < 2 ^ lp := Nat.mod_lt _ (Nat.pow_pos (by decide))
  have h2 : (if 0 < H.length then (H.getD (H.length - 1) 0).toNat else 0) / 2 ^ (8 - lc) < 2 ^ lc := by
    rw [Nat.div_lt_iff_lt_mul (Nat.pow_pos (by decide)), ← Nat.pow_add, show lc + (8 - lc) = 8 by omega]
    split
    · exact (H.getD (H.length - 1) 0).toNat_lt
    · decide
  have h3 : (H.length % 2 ^ lp + 1) * 2 ^ lc ≤ 2 ^ lp * 2 ^ lc := Nat.mul_le_mul_right _ h1
  rw [Nat.pow_add, Nat.mul_comm (2 ^ lc)]
  rw [Nat.add_mul] at h3
  omega
set_option maxHeartbeats 400000 in
theorem litState_any (st : Nat) (_ : st < 12) (w : World) : Calls Try.prog 99 #[.int .i64 (st : Nat)] w fun e w' => e = .returned (.int .i64 (litState st : Nat)) ∧ w = w' := by
  obtain ⟨S, hS⟩ : ∃ S, litState st = S := ⟨_, rfl⟩
  rw [hS]
  unfold litState at hS
  by_cases h1 : st < 4
  · rw [if_pos h1] at hS
    subst hS
    have h1i : (st : Int) < 4 := by omega
    go_enter Try.func99, Try.ntmps99
    go_wp2_with fail
    go_ret
    exact ⟨rfl, rfl⟩
  · have h1i : ¬ (st : Int) < 4 := by omega
    rw [if_neg h1] at hS
    by_cases h2 : st < 10
    · have h2i : (st : Int) < 10 := by omega
      rw [if_pos h2] at hS
      have HS := Lib.hid hS
      clear hS
      go_enter Try.func99, Try.ntmps99
      go_wp2_with fail
      go_ret
      have := HS.out
      exact ⟨by go_num, rfl⟩
    · have h2i : ¬ (st : Int) < 10 := by omega
      rw [if_neg h2] at hS
      have HS := Lib.hid hS
      clear hS
      go_enter Try.func99, Try.ntmps99
      go_wp2_with fail
      go_ret
      have := HS.out
      exact ⟨by go_num, rfl⟩
set_option maxHeartbeats 400000 in
theorem after2_any (st a b : Nat) (w : World) : Calls Try.prog 103 #[.int .i64 (st : Nat), .int .i64 (a : Nat), .int .i64 (b : Nat)] w fun e w' => e = .returned (.int .i64 ((if st < 7 then a else b : Nat) : Int)) ∧ w = w' := by
  by_cases h1 : st < 7
  · have h1i : (st : Int) < 7 := by omega
    rw [if_pos h1]
    go_enter Try.func103, Try.ntmps103
    go_wp2_with fail
    go_ret
    exact ⟨rfl, rfl⟩
  · have h1i : ¬ (st : Int) < 7 := by omega
    rw [if_neg h1]
    go_enter Try.func103, Try.ntmps103
    go_wp2_with fail
    go_ret
    exact ⟨rfl, rfl⟩
def Tells (v : Value) (w : World) (e : Ending) (w' : World) : Prop := e = .returned v ∧ Below w.heap.size w w'
theorem wrap64_of {a : Int} (h0 : -9223372036854775808 ≤ a) (h1 : a ≤ 9223372036854775807) : wrap64 a = a := by unfold wrap64; omega
theorem ctx_num {n lc lp u K : Nat} (hlc : lc ≤ 4) (hlp : lp ≤ 4) (hu : u < 256) (hK : n % 2 ^ lp * 2 ^ lc + u / 2 ^ (8 - lc) = K) : wrap64 (wrap64 (bits .and .i64 (n : Int) (wrap64 (wrap64 (2 ^ lp) - 1)) * 2 ^ lc) + (u : Int) / 2 ^ (8 - lc)) = (K : Int) := by
  have h1 : 1 ≤ 2 ^ lp := Nat.one_le_two_pow
  have h2 : 2 ^ lp ≤ 2 ^ 4 := Nat.pow_le_pow_right (by omega) hlp
  have h3 : 2 ^ lc ≤ 2 ^ 4 := Nat.pow_le_pow_right (by omega) hlc
  have e1 : wrap64 ((2 : Int) ^ lp) = ((2 ^ lp : Nat) : Int) := by rw [show (2 : Int) ^ lp = ((2 ^ lp : Nat) : Int) by simp]; exact wrap64_of (by omega) (by omega)
  have e2 : wrap64 (((2 ^ lp : Nat) : Int) - 1) = ((2 ^ lp - 1 : Nat) : Int) := by rw [wrap64_of (by omega) (by omega)]; omega
  have e3 : (n : Int) % ((2 ^ lp : Nat) : Int) = ((n % 2 ^ lp : Nat) : Int) := by omega
  have h4 : n % 2 ^ lp < 2 ^ lp := Nat.mod_lt _ h1
  have h5 : n % 2 ^ lp * 2 ^ lc ≤ 16 * 16 := Nat.mul_le_mul (by omega) (by omega)
  have e4 : ((n % 2 ^ lp : Nat) : Int) * 2 ^ lc = ((n % 2 ^ lp * 2 ^ lc : Nat) : Int) := by simp
  have e5 : (u : Int) / 2 ^ (8 - lc) = ((u / 2 ^ (8 - lc) : Nat) : Int) := by simp
  have h6 : u / 2 ^ (8 - lc) ≤ u := Nat.div_le_self _ _
  rw [e1, e2, i64_and_low _ _ (by omega), e3, e4, e5]
  generalize n % 2 ^ lp * 2 ^ lc = N at *
  generalize u / 2 ^ (8 - lc) = U at *
  rw [wrap64_of (a := (N : Int)) (by omega) (by omega), wrap64_of (by omega) (by omega)]
  omega
set_option maxRecDepth 100000 in
set_option maxHeartbeats 1000000 in
theorem ctx_any {C L lc lp pb st : Nat} {r : R4} {P : Nat → Nat} {w : World} (hM : ModAt w C L lc lp pb st r P) (hlc : lc ≤ 4) (hlp : lp ≤ 4) (A : Option Addr) (H : List UInt8) (c : Nat) (hB : Bytes w A H) (hc : H.length ≤ c) (hH : H.length ≤ 1000000000) :
    Calls Try.prog 98 #[PF C, .slice A H.length c] w (Tells (.int .i64 (ctxN lc lp H : Nat)) w) := by
  obtain ⟨c0, c1, _⟩ := hM.cells
  obtain ⟨K, hK⟩ : ∃ K, ctxN lc lp H = K := ⟨_, rfl⟩
  rw [hK]
  unfold ctxN at hK
  have hci : (H.length : Int) ≤ (c : Int) := by omega
  have hHi : (H.length : Int) ≤ 1000000000 := by omega
  by_cases h0 : 0 < H.length
  · have h0i : (0 : Int) < (H.length : Int) := by omega
    rw [if_pos h0] at hK
    obtain ⟨b, off, rfl, _, hat⟩ := hB.addr h0
    have cx := hat (H.length - 1) (by omega)
    rw [← getD_of] at cx
    generalize H.getD (H.length - 1) 0 = u at *
    obtain ⟨y, hy⟩ : ∃ y, H.length - 1 = y := ⟨_, rfl⟩
    rw [hy] at cx
    have hyi : (H.length : Int) - 1 = (y : Int) := by omega
    have hyl : (y : Int) < (H.length : Int) := by omega
    have HK := Lib.hid hK
    clear hK hat hB hy
    go_enter Try.func98, Try.ntmps98
    go_wp2_with fail
    go_quiet (fail)
    go_wp2_with fail
    go_ret
    have e := ctx_num hlc hlp (u := u.toNat) u.toNat_lt HK.out
    have e0 : wrap64 ((u.toNat : Nat) : Int) = ((u.toNat : Nat) : Int) := wrap64_of (by omega) (by have := u.toNat_lt; omega)
    refine ⟨?_, below_drewN (Below.refl _ _) _⟩
    show Ending.returned (Value.int .i64 _) = _
    rw [e0, e]
  · have h0i : ¬ (0 : Int) < (H.length : Int) := by omega
    rw [if_neg h0] at hK
    have HK := Lib.hid hK
    clear hK hB
    go_enter Try.func98, Try.ntmps98
    go_wp2_with fail
    go_quiet (fail)
    go_wp2_with fail
    go_ret
    have e := ctx_num hlc hlp (u := 0) (by decide) HK.out
    rw [show (((0 : Nat) : Nat) : Int) / 2 ^ (8 - lc) = 0 by simp, Int.add_zero] at e
    refine ⟨?_, below_drewN (Below.refl _ _) _⟩
    show Ending.returned (Value.int .i64 _) = _
    exact congrArg (fun n : Int => Ending.returned (Value.int .i64 n)) e
end Go.Proofs.Ytkckjjchfccdjaa
