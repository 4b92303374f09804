/- Several texts in one: MdSlot, MdDist. -/
import Derived.Test.YtklkboplkobhgaaGreatMdTreeL
import Derived.Test.YtklkboplkobhgaaGreatShelf
import Derived.Test.YtklkboplkobhgaaGreatRcAll
import Derived.Lib.MinMax
/- The model's slotOf. -/
namespace Go.Proofs.YtklkboplkobhgaaGreat
set_option maxRecDepth 100000
open Go.RowKit

def slotN (d : Nat) : Nat := if d < 4 then d else 2 * Lib.bitLen d - 2 + d / 2 ^ (Lib.bitLen d - 2) % 2
theorem bitLen_range {d : Nat} (h4 : 4 ≤ d) (h : d < 4294967296) : 3 ≤ Lib.bitLen d ∧ Lib.bitLen d ≤ 32 := by
  rw [Lib.bitLen_shift 2 d h4 (by omega)]
  have h5 : d / 2 ^ 2 ≠ 0 := by omega
  rw [Lib.bitLen_half (d / 2 ^ 2) h5 (by omega)]
  have h6 : d / 2 ^ 2 / 2 < 2 ^ 29 := by omega
  have h7 : ∀ (f x : Nat), x < 2 ^ f → Lib.bitLenAux 64 x ≤ f ∨ 64 < f := fun f x hx => by
    by_cases hf : f ≤ 64
    · left
      rw [Lib.bitLenAux_fuel f x hx 64 hf]
      clear hx hf
      induction f generalizing x with
      | zero => exact Nat.le_refl _
      | succ f ih =>
        unfold Lib.bitLenAux
        split
        · omega
        · have := ih (x / 2); omega
    · right; omega
  have h8 := h7 29 _ h6
  unfold Lib.bitLen
  omega
theorem slotN_lt {d : Nat} (h : d < 4294967296) : slotN d < 64 := by
  unfold slotN
  split
  · omega
  · have := bitLen_range (d := d) (by omega) h
    omega
theorem u32_and_one (x : Nat) (hx : x < 4294967296) : bits .and .u32 (x : Int) 1 = ((x % 2 : Nat) : Int) := by
  rw [show (1 : Int) = ((1 : Nat) : Int) from rfl, u32_and_nat _ _ (by omega) (by omega), nat_mask1]
set_option maxRecDepth 100000 in
set_option maxHeartbeats 1000000 in
theorem slot_any (d : Nat) (hd : d < 4294967296) (w : World) : Calls Tryz.prog 98 #[.int .u32 (d : Nat)] w fun e w' => e = .returned (.int .i64 (slotN d : Nat)) ∧ w = w' := by
  by_cases h4 : d < 4
  · have h4i : (d : Int) < 4 := by omega
    have HS : Hid (slotN d = d) := Lib.hid (by unfold slotN; rw [if_pos h4])
    rw [HS.out]
    go_enter Tryz.func98, Tryz.ntmps98
    go_wp2_with fail
    go_ret
    exact ⟨rfl, rfl⟩
  · have h4i : ¬ (d : Int) < 4 := by omega
    obtain ⟨n1, n2⟩ := bitLen_range (d := d) (by omega) hd
    have HL := Lib.hid (Shelf_bits_Len32 (d : Nat) w (by omega) (by omega))
    obtain ⟨S, hS⟩ : ∃ S, slotN d = S := ⟨_, rfl⟩
    rw [hS]
    unfold slotN at hS
    rw [if_neg h4] at hS
    rw [Int.toNat_natCast] at HL
    generalize Lib.bitLen d = n at *
    have hn1 : (3 : Int) ≤ (n : Int) := by omega
    have hn2 : (n : Int) ≤ 32 := by omega
    have HS := Lib.hid hS
    clear hS
    go_enter Tryz.func98, Tryz.ntmps98
    go_wp2_with fail
    refine HL.out.mono ?_
    rintro e w1 ⟨rfl, rfl⟩
    go_wp2_with fail
    go_ret
    refine ⟨congrArg (fun n : Int => Ending.returned (Value.int .i64 n)) ?_, rfl⟩
    rw [← HS.out]
    have e : (d : Int) / 2 ^ (n - 2) = ((d / 2 ^ (n - 2) : Nat) : Int) := by simp
    have hle : d / 2 ^ (n - 2) ≤ d := Nat.div_le_self _ _
    rw [e, u32_and_one _ (by omega)]
    unfold wrap64
    omega
end Go.Proofs.YtklkboplkobhgaaGreat

/- The model's distances. -/
namespace Go.Proofs.YtklkboplkobhgaaGreat
set_option maxRecDepth 100000
open Go.RowKit

namespace Md
/-- A distance's bits, behind a length. -/
def dist (io : Io) (l : Nat) (dd : Int) (x : io.S) : Nat × io.S :=
  let d : Nat := ((dd - 1) % 4294967296).toNat
  let y := tree io (1460 + 64 * min (l - 2) 3) 6 (slotN d : Nat) x
  if y.1 < 4 then (y.1 + 1, y.2)
  else if y.1 < 14 then
    let z := rev io (1716 + 32 * y.1) (y.1 / 2 - 1) (d : Nat) y.2
    ((2 + y.1 % 2) * 2 ^ (y.1 / 2 - 1) + z.1 + 1, z.2)
  else
    let q := io.plain y.2.2 (d / 16 % 2 ^ (y.1 / 2 - 1 - 4)) (y.1 / 2 - 1 - 4)
    let z := rev io 2164 4 (d : Nat) (y.2.1, q.2)
    ((2 + y.1 % 2) * 2 ^ (y.1 / 2 - 1) + q.1 % 2 ^ (y.1 / 2 - 1 - 4) * 16 + z.1 + 1, z.2)
end Md
set_option maxRecDepth 100000 in
set_option maxHeartbeats 2000000 in
theorem dist_is (io : Io) {C L lc lp pb st : Nat} {r : R4} {x : io.S} {X : List Nat} {w : World} (hM : MS io w C L lc lp pb st r x X) {l k : Nat} {dd : Int} {R : Nat} {Z : io.S} (hR : Md.dist io l dd x = (R, Z)) (hok : io.ok x.2 (k + 42)) (hl : 2 ≤ l) (hl1 : l ≤ 300) (hd0 : 0 ≤ dd) (hd1 : dd ≤ 4294967295) :
    Calls Tryz.prog 91 #[.pointer (some ⟨C, 1469, none⟩), io.v, .int .i64 (l : Nat), .int .i64 dd] w (MAnd (1 ≤ R ∧ R ≤ 4294967296 ∧ io.ok Z.2 k) (MDone (.int .i64 (R : Nat)) io C L lc lp pb st r Z X w)) := by
  obtain ⟨D, hD'⟩ : ∃ D : Nat, ((dd - 1) % 4294967296).toNat = D := ⟨_, rfl⟩
  have hD : D < 4294967296 := by omega
  have hDi : IntKind.u32.wrap (dd - 1) = (D : Int) := by rw [IntKind.wrap_u32]; omega
  unfold Md.dist at hR
  rw [hD'] at hR
  have hmi : min (IntKind.i64.wrap ((l : Int) - 2)) 3 = ((min (l - 2) 3 : Nat) : Int) := by rw [IntKind.wrap_i64]; omega
  obtain ⟨K, hK⟩ : ∃ K, min (l - 2) 3 = K := ⟨_, rfl⟩
  have hK3 : K ≤ 3 := by omega
  rw [hK] at hR hmi
  obtain ⟨⟨slot, y⟩, hy⟩ : ∃ q, Md.tree io (1460 + 64 * K) 6 (slotN D : Nat) x = q := ⟨_, rfl⟩
  obtain ⟨h1, hsl, ok1⟩ := tree_is io (hM.drewN 1) hy (len := 64) (cp := 64) (b := C) (off := 1469 + K * 64) (k := k + 36) (io.le hok (by omega)) (Md.seg_mid (by omega) (by omega) (by omega)) (by omega) (by omega) (by omega) (by omega)
  simp only [hy] at hR
  have HT := Lib.hid h1
  have HR := Lib.hid hR
  have HOK := Lib.hid ok1
  have hsli : (slot : Int) < 64 := by omega
  have hKi : (K : Int) < 4 := by omega
  clear hR h1 ok1 hy hok
  have hdr : True := trivial
  go_enter Tryz.func91, Tryz.ntmps91
  go_upto_region 2 with fail
  refine wp_region_held_drew (S := fun _ => True) (by kernel_rfl) hdr (fun hS => ?_)
  refine wpAnyH_take (i := 0) (oi := { dst := some 18, op := Op.move (Operand.tmp 1), type := 142, pos := "model.go:234", after := #[], guard := none }) (v := ?vds1) rfl (by kernel_rfl) (by kernel_rfl) (by kernel_rfl) (fun _ _ _ h => h) (Or.inl ⟨by rfl, ?yds1⟩) hS ?_
  case yds1 =>
    intro w hSw
    go_simp; all_goals (with_reducible rfl)
  simp only [Act.put, List.setIfInBounds_toArray, List.set_cons_zero, List.set_cons_succ]
  refine wpAnyH_take (i := 1) (oi := { dst := some 19, op := Op.move (Operand.tmp 0), type := 162, pos := "model.go:234", after := #[], guard := none }) (v := ?vds2) rfl (by kernel_rfl) (by kernel_rfl) (by kernel_rfl) (fun _ _ _ h => h) (Or.inl ⟨by rfl, ?yds2⟩) hS ?_
  case yds2 =>
    intro w hSw
    go_simp; all_goals (with_reducible rfl)
  simp only [Act.put, List.setIfInBounds_toArray, List.set_cons_zero, List.set_cons_succ]
  refine wpAnyH_take (i := 2) (oi := { dst := some 20, op := Op.move (Operand.tmp 2), type := 3, pos := "model.go:234", after := #[], guard := none }) (v := ?vds3) rfl (by kernel_rfl) (by kernel_rfl) (by kernel_rfl) (fun _ _ _ h => h) (Or.inl ⟨by rfl, ?yds3⟩) hS ?_
  case yds3 =>
    intro w hSw
    go_simp; all_goals (with_reducible rfl)
  simp only [Act.put, List.setIfInBounds_toArray, List.set_cons_zero, List.set_cons_succ]
  refine wpAnyH_take (i := 3) (oi := { dst := some 21, op := Op.binOp BinOp.sub 3 (Operand.tmp 20) (Operand.const (Value.int IntKind.i64 2)) 3, type := 3, pos := "model.go:234", after := #[{ on := 2, ground := Ground.data }], guard := none }) (v := ?vds4) rfl (by kernel_rfl) (by kernel_rfl) (by kernel_rfl) (fun _ _ _ h => h) (Or.inl ⟨by rfl, ?yds4⟩) hS ?_
  case yds4 =>
    intro w hSw
    go_simp; all_goals (with_reducible rfl)
  simp only [Act.put, List.setIfInBounds_toArray, List.set_cons_zero, List.set_cons_succ]
  refine wpAnyH_take (i := 4) (oi := { dst := some 22, op := Op.call { callee := Callee.builtin Builtin.min, args := #[Operand.tmp 21, Operand.const (Value.int IntKind.i64 3)], argTypes := #[3, 3] }, type := 3, pos := "model.go:234", after := #[{ on := 3, ground := Ground.data }], guard := none }) (v := ?vds5) rfl (by kernel_rfl) (by kernel_rfl) (by kernel_rfl) (fun _ _ _ h => h) (Or.inl ⟨by rfl, ?yds5⟩) hS ?_
  case yds5 =>
    intro w hSw
    go_simp; all_goals (with_reducible rfl)
  simp only [Act.put, List.setIfInBounds_toArray, List.set_cons_zero, List.set_cons_succ]
  refine wpAnyH_take (i := 5) (oi := { dst := some 23, op := Op.nilCheck (Operand.tmp 19), type := 0, pos := "model.go:234", after := #[{ on := 1, ground := Ground.data }], guard := none }) (v := ?vds6) rfl (by kernel_rfl) (by kernel_rfl) (by kernel_rfl) (fun _ _ _ h => h) (Or.inl ⟨by rfl, ?yds6⟩) hS ?_
  case yds6 =>
    intro w hSw
    go_simp; all_goals (with_reducible rfl)
  simp only [Act.put, List.setIfInBounds_toArray, List.set_cons_zero, List.set_cons_succ]
  refine wpAnyH_take (i := 6) (oi := { dst := some 24, op := Op.fieldAddr 81 (Operand.tmp 23) 0, type := 0, pos := "model.go:234", after := #[{ on := 5, ground := Ground.data }], guard := none }) (v := ?vds7) rfl (by kernel_rfl) (by kernel_rfl) (by kernel_rfl) (fun _ _ _ h => h) (Or.inl ⟨by rfl, ?yds7⟩) hS ?_
  case yds7 =>
    intro w hSw
    go_simp; all_goals (with_reducible rfl)
  simp only [Act.put, List.setIfInBounds_toArray, List.set_cons_zero, List.set_cons_succ]
  refine wpAnyH_take (i := 7) (oi := { dst := some 25, op := Op.indexAddr 77 (Operand.tmp 24) (Operand.tmp 22), type := 0, pos := "model.go:234", after := #[{ on := 6, ground := Ground.data }, { on := 4, ground := Ground.data }], guard := none }) (v := ?vds8) rfl (by kernel_rfl) (by kernel_rfl) (by kernel_rfl) (fun _ _ _ h => h) (Or.inl ⟨by rfl, ?yds8⟩) hS ?_
  case yds8 =>
    intro w hSw
    go_simp; all_goals (with_reducible rfl)
  simp only [Act.put, List.setIfInBounds_toArray, List.set_cons_zero, List.set_cons_succ]
  refine wpAnyH_take (i := 8) (oi := { dst := some 26, op := Op.slice 76 (Operand.tmp 25) none none none, type := 85, pos := "model.go:234", after := #[{ on := 7, ground := Ground.data }], guard := none }) (v := ?vds9) rfl (by kernel_rfl) (by kernel_rfl) (by kernel_rfl) (fun _ _ _ h => h) (Or.inl ⟨by rfl, ?yds9⟩) hS ?_
  case yds9 =>
    intro w hSw
    go_simp; all_goals (with_reducible rfl)
  simp only [Act.put, List.setIfInBounds_toArray, List.set_cons_zero, List.set_cons_succ]
  refine wpAnyH_take (i := 9) (oi := { dst := some 27, op := Op.move (Operand.tmp 9), type := 24, pos := "model.go:234", after := #[], guard := none }) (v := ?vds10) rfl (by kernel_rfl) (by kernel_rfl) (by kernel_rfl) (fun _ _ _ h => h) (Or.inl ⟨by rfl, ?yds10⟩) hS ?_
  case yds10 =>
    intro w hSw
    go_simp; all_goals (with_reducible rfl)
  simp only [Act.put, List.setIfInBounds_toArray, List.set_cons_zero, List.set_cons_succ]
  refine wpAnyH_ready (rs := [10]) (by kernel_rfl) (by simp) ?_
  refine (AllReadyH.cons (o := { dst := some 28, op := Op.call { callee := Callee.value (Operand.func 98), args := #[Operand.tmp 27], argTypes := #[24] }, type := 3, pos := "model.go:234", after := #[{ on := 9, ground := Ground.data }], guard := none }) rfl (fun K hK => ?_) AllReadyH.nil)
  go_simp
  refine (slot_any D hD _).mono ?_
  rintro e x4 ⟨rfl, rfl⟩
  go_wp2_with fail
  refine hK.out _ _ hdr (fun _ => ?_)
  clear hK K
  refine wpAnyH_ready (rs := [11]) (by kernel_rfl) (by simp) ?_
  refine (AllReadyH.cons (o := { dst := some 29, op := Op.call { callee := Callee.value (Operand.func 97), args := #[Operand.tmp 18, Operand.tmp 26, Operand.const (Value.int IntKind.i64 6), Operand.tmp 28], argTypes := #[142, 85, 3, 3] }, type := 3, pos := "model.go:234", after := #[{ on := 0, ground := Ground.data }, { on := 8, ground := Ground.data }, { on := 10, ground := Ground.data }, { on := 10, ground := Ground.chain }], guard := none }) rfl (fun K hK => ?_) AllReadyH.nil)
  go_simp
  refine HT.out.mono ?_
  rintro e x5 ⟨rfl, X1, hM1, hon1, hX1⟩
  have g5 := Lib.hid (And.intro hon1 hX1)
  clear hon1 hX1
  go_wp2_with fail
  refine hK.out _ _ trivial (fun _ => ?_)
  clear hK K
  refine wpAnyH_take (i := 12) (oi := { dst := some 10, op := Op.assign (Operand.tmp 29), type := 3, pos := "model.go:234", after := #[{ on := 11, ground := Ground.data }, { on := 11, ground := Ground.chain }, { on := 0, ground := Ground.phase }, { on := 1, ground := Ground.phase }, { on := 2, ground := Ground.phase }, { on := 3, ground := Ground.phase }, { on := 4, ground := Ground.phase }, { on := 5, ground := Ground.phase }, { on := 6, ground := Ground.phase }, { on := 7, ground := Ground.phase }, { on := 8, ground := Ground.phase }, { on := 9, ground := Ground.phase }, { on := 10, ground := Ground.phase }, { on := 11, ground := Ground.phase }], guard := none }) (v := ?vds11) rfl (by kernel_rfl) (by kernel_rfl) (by kernel_rfl) (fun _ _ _ h => h) (Or.inl ⟨by rfl, ?yds11⟩) trivial ?_
  case yds11 =>
    intro w hSw
    go_simp; all_goals (with_reducible rfl)
  simp only [Act.put, List.setIfInBounds_toArray, List.set_cons_zero, List.set_cons_succ]
  refine wpAnyH_done (by kernel_rfl) ?_ _

  have HM1 := Lib.hid hM1
  clear hS hdr hM1 HT
  have hR := HR.out
  by_cases h4 : slot < 4
  · have h4i : (slot : Int) < 4 := by omega
    rw [if_pos h4] at hR
    injection hR with hR1 hR2
    have HRE := Lib.hid (And.intro hR1.symm hR2.symm)
    clear hR1 hR2 h4
    go_wp2_with fail
    go_ret
    obtain ⟨e1, e2⟩ := HRE.out
    subst e1 e2
    exact ⟨⟨by go_num, X1, HM1.out, Only.undrewN g5.out.1, g5.out.2⟩, by omega, by omega, io.le HOK.out (by omega)⟩
  · have h4i : ¬ (slot : Int) < 4 := by omega
    rw [if_neg h4] at hR
    obtain ⟨n, hn⟩ : ∃ n, slot / 2 - 1 = n := ⟨_, rfl⟩
    have hni : (slot : Int) / 2 - 1 = (n : Int) := by omega
    have hn30 : n ≤ 30 := by omega
    have hp30 : 2 ^ n ≤ 2 ^ 30 := Nat.pow_le_pow_right (by omega) hn30
    obtain ⟨TOP, hT⟩ : ∃ T, (2 + slot % 2) * 2 ^ n = T := ⟨_, rfl⟩
    have hTOP : TOP ≤ 3 * 2 ^ 30 := by rw [← hT]; exact Nat.mul_le_mul (by omega) hp30
    have htop : wrap64 (wrap64 (2 + bits .and .i64 (slot : Int) 1) * 2 ^ n) = (TOP : Int) := by
      rw [i64_and_one, show (2 : Int) + (slot : Int) % 2 = ((2 + slot % 2 : Nat) : Int) by omega]
      have e1 : wrap64 ((2 + slot % 2 : Nat) : Int) = ((2 + slot % 2 : Nat) : Int) := by unfold wrap64; omega
      rw [e1, show (2 : Int) ^ n = ((2 ^ n : Nat) : Int) by simp, ← Int.natCast_mul, hT]
      unfold wrap64; omega
    have hTi : (TOP : Int) ≤ 3221225472 := by omega
    rw [hn, hT] at hR
    by_cases h14 : slot < 14
    · have h14i : (slot : Int) < 14 := by omega
      rw [if_pos h14] at hR
      obtain ⟨⟨t, z⟩, hz⟩ : ∃ q, Md.rev io (1716 + 32 * slot) n (D : Nat) y = q := ⟨_, rfl⟩
      have h2n : 2 ^ n ≤ 2 ^ 5 := Nat.pow_le_pow_right (by omega) (by omega)
      obtain ⟨h2, ht, ok2⟩ := rev_is io HM1.out hz (len := 32) (cp := 32) (b := C) (off := 1725 + (slot - 4) * 32) (k := k) (io.le HOK.out (by omega)) (Md.seg_tail (by omega) (by omega) (by omega)) (by omega) (by omega) (by omega) (by omega)
      simp only [hz] at hR
      injection hR with hR1 hR2
      have HRE := Lib.hid (And.intro hR1.symm hR2.symm)
      have H2 := Lib.hid h2
      have HOK2 := Lib.hid ok2
      have hti : (t : Int) < 32 := by omega
      have HN := Lib.hid hn
      have HTT := Lib.hid (And.intro hTOP ht)
      clear hR1 hR2 h4 hn hn30 hp30 hT hTOP h2n ht h2 ok2 hz h14
      go_wp2_with fail
      refine H2.out.mono ?_
      rintro e x6 ⟨rfl, hw6⟩
      go_wp2_with fail
      go_ret
      obtain ⟨e1, e2⟩ := HRE.out
      subst e1 e2
      exact ⟨⟨by go_num, Went.trans (Only.undrewN g5.out.1) g5.out.2 hw6⟩, by omega, by have := HTT.out; omega, HOK2.out⟩
    · have h14i : ¬ (slot : Int) < 14 := by omega
      rw [if_neg h14] at hR
      obtain ⟨m, hm⟩ : ∃ m, n - 4 = m := ⟨_, rfl⟩
      have hmi : (n : Int) - 4 = (m : Int) := by omega
      have hm26 : m ≤ 26 := by omega
      have hp26 : 2 ^ m ≤ 2 ^ 26 := Nat.pow_le_pow_right (by omega) hm26
      have hp1 : 1 ≤ 2 ^ m := Nat.one_le_two_pow
      rw [hm] at hR
      obtain ⟨M, hM'⟩ : ∃ M, 2 ^ m - 1 = M := ⟨_, rfl⟩
      have hmask : ((2 : Int) ^ m - 1) % 4294967296 = (M : Int) := by
        rw [show (2 : Int) ^ m = ((2 ^ m : Nat) : Int) by simp]; omega
      obtain ⟨V, hV⟩ : ∃ V, D / 16 % 2 ^ m = V := ⟨_, rfl⟩
      have hVlt : V < 2 ^ m := by rw [← hV]; exact Nat.mod_lt _ (by omega)
      have hand : bits .and .u32 ((D : Int) / 16) (M : Int) = (V : Int) := by
        rw [show (D : Int) / 16 = ((D / 16 : Nat) : Int) by omega, u32_and_nat _ _ (by omega) (by omega), ← hM', Nat.and_two_pow_sub_one_eq_mod, hV]
      have hVm : V % 2 ^ m = V := Nat.mod_eq_of_lt hVlt
      rw [hV] at hR
      obtain ⟨⟨q, s2⟩, hq⟩ : ∃ z, io.plain y.2 V m = z := ⟨_, rfl⟩
      obtain ⟨h2, hq2, ok2⟩ := plain_is io HM1.out (v := V) (m := m) (q := q) (s2 := s2) (k := k + 4) (by rw [hVm]; exact hq) HOK.out (by omega) (by omega)
      simp only [hq] at hR
      rw [Nat.mod_eq_of_lt hq2] at hR
      have hqi : (q : Int) < 67108864 := by omega
      have hand2 : bits .and .u32 (q : Int) (M : Int) = (q : Int) := by
        rw [u32_and_nat _ _ (by omega) (by omega), ← hM', Nat.and_two_pow_sub_one_eq_mod, Nat.mod_eq_of_lt hq2]
      obtain ⟨⟨t, z⟩, hz⟩ : ∃ q, Md.rev io 2164 4 (D : Nat) (y.1, s2) = q := ⟨_, rfl⟩
      simp only [hz] at hR
      injection hR with hR1 hR2
      have HRE := Lib.hid (And.intro hR1.symm hR2.symm)
      have HZ := Lib.hid hz
      have HOK2 := Lib.hid ok2
      have HTT := Lib.hid (And.intro hTOP hq2)
      have hmeth := io.meth
      have H26 := Lib.hid hp26
      rcases io.kind with hF | hF
      all_goals
        have H2 := Lib.hid h2
        rw [hF] at H2
      all_goals
        clear hR1 hR2 hn hn30 hp30 hT hTOP h2 ok2 hz h14 hm hp26 hM' hV hVlt hVm hq hq2 hp1 h4
        go_wp2_with fail
        refine H2.out.mono ?_
        rintro e x6 ⟨rfl, hw6⟩
        obtain ⟨X2, hM2, hon2, hX2⟩ := Went.trans (Only.undrewN g5.out.1) g5.out.2 hw6
        obtain ⟨h3, ht, ok3⟩ := rev_is io hM2 HZ.out (len := 16) (cp := 16) (b := C) (off := 2045) (k := k) (io.le HOK2.out (by omega)) (Md.seg_tail (by omega) (by omega) (by omega)) (by omega) (by omega) (by omega) (by omega)
        have H3 := Lib.hid h3
        have hti : (t : Int) < 16 := by omega
        have HT3 := Lib.hid (And.intro ht ok3)
        have HO2 := Lib.hid (And.intro hon2 hX2)
        clear hon2 hX2 hM2 hw6 h3 ht ok3
        go_wp2_with fail
        refine H3.out.mono ?_
        rintro e x7 ⟨rfl, hw7⟩
        go_wp2_with fail
        go_ret
        obtain ⟨e1, e2⟩ := HRE.out
        subst e1 e2
        have h26 := H26.out
        have htt := HTT.out
        exact ⟨⟨by go_num, Went.trans HO2.out.1 HO2.out.2 hw7⟩, by omega, by have := HT3.out; omega, HT3.out.2⟩
end Go.Proofs.YtklkboplkobhgaaGreat
