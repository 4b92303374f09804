/- index.readEnd. -/
import Derived.Test.YthfmhjpmcapcbaaDoorIxNext
import Derived.Test.YthfmhjpmcapcbaaDoorShelf
import Derived.Deep.RegionHeld3
namespace Go.Proofs.YthfmhjpmcapcbaaDoor
open Go.RowKit

theorem equal_any (A B : Option Addr) (l m : List UInt8) (c d : Nat) (w : World) (h1 : Bytes w A l) (h2 : Bytes w B m) : Calls Tryd.prog 27 #[.slice A l.length c, .slice B m.length d] w fun e w' => e = .returned (.bool (l == m)) ∧ w = w' := by
  refine (Shelf_bytes_Equal_strs (.slice A l.length c) (.slice B m.length d) ⟨l.toArray⟩ ⟨m.toArray⟩ w (run_str h1 c) (run_str h2 d)).mono fun e w' h => ?_
  obtain ⟨rfl, rfl⟩ := h
  rw [ByteArray.toList_mk, ByteArray.toList_mk]
  exact ⟨rfl, rfl⟩
def part (l : List UInt8) (a n : Nat) : List UInt8 := (l.drop a).take n
theorem part_length (l : List UInt8) (a n : Nat) (h : a + n ≤ l.length) : (part l a n).length = n := by unfold part; rw [List.length_take, List.length_drop]; omega
/-- The zeros from a place on: the place behind them, and an error's number. -/
def zr (l : List UInt8) : Nat → Nat → Nat × Nat
  | 0, a => (a, 0)
  | z + 1, a => if l.length ≤ a then (0, 2) else if l.getD a 0 ≠ 0 then (0, 8) else zr l z (a + 1)
/-- What stands behind the zeros. -/
def crcR (l : List UInt8) (a : Nat) : Nat × Nat := if l.length < a + 4 then (0, 2) else if (part l a 4 == sum1 (l.take a)) = false then (0, 8) else (a + 4, 0)
def endR (l : List UInt8) (a : Nat) : Nat × Nat := if (zr l (zerosN a) a).2 ≠ 0 then (0, (zr l (zerosN a) a).2) else crcR l (zr l (zerosN a) a).1
theorem zr_place (l : List UInt8) : ∀ z a, (zr l z a).2 = 0 → (zr l z a).1 = a + z ∧ (a ≤ l.length → a + z ≤ l.length)
  | 0, a, _ => ⟨rfl, fun h => h⟩
  | z + 1, a, h => by
    unfold zr at h ⊢
    by_cases h1 : l.length ≤ a
    · rw [if_pos h1] at h; cases h
    rw [if_neg h1] at h ⊢
    by_cases h2 : l.getD a 0 ≠ 0
    · rw [if_pos h2] at h; cases h
    rw [if_neg h2] at h ⊢
    obtain ⟨p, q⟩ := zr_place l z (a + 1) h
    exact ⟨by omega, fun _ => by have := q (by omega); omega⟩

set_option maxRecDepth 100000 in
set_option maxHeartbeats 2000000 in
theorem end_any (A : Option Addr) (l : List UInt8) (c a : Nat) (w : World) (hB : Bytes w A l) (ha : a ≤ l.length) (hc : l.length ≤ c) (hm : c ≤ 9223372036854775807) (hl : l.length ≤ 1000000) :
    Calls Tryd.prog 21 #[.slice A l.length c, .int .i64 (a : Nat)] w fun e w' => e = .returned (.tuple #[.int .i64 ((endR l a).1 : Nat), .int .i64 ((endR l a).2 : Nat)]) ∧ Below w.heap.size w w' := by
  have HZ := Lib.hid (ix_zeros a w (by omega))
  have hai : (a : Int) ≤ (l.length : Int) := by omega
  have hci : (l.length : Int) ≤ (c : Int) := by omega
  have hli : (l.length : Int) ≤ 1000000 := by omega
  have HR := Lib.hid (show endR l a = if (zr l (zerosN a) a).2 ≠ 0 then (0, (zr l (zerosN a) a).2) else crcR l (zr l (zerosN a) a).1 from rfl)
  have hz4 : zerosN a < 4 := by unfold zerosN; omega
  generalize zerosN a = z at *
  go_enter Tryd.func21, Tryd.ntmps21
  go_wp2_with fail
  refine HZ.out.mono ?_
  rintro e _ ⟨rfl, rfl⟩
  go_wp2_with fail
  go_loopw [1, 8] (fun at' i wr => ∃ j : Nat, j ≤ z ∧ i = .int .i64 (j : Nat) ∧ at' = .int .i64 ((a + j : Nat) : Int) ∧ Hid (zr l z a = zr l (z - j) (a + j)) ∧ a + j ≤ l.length ∧ w = wr) (fun _ i _ => z - (intOf i).toNat)
  case atStart => exact ⟨0, by omega, rfl, rfl, rfl, by omega, rfl⟩
  case round =>
    obtain ⟨j, hj, rfl, rfl, hgo, hjl, rfl⟩ := hrel
    by_cases hjz : j < z
    · have hjz2 : (j : Int) < (z : Int) := by omega
      have hzi : (z : Int) < 4 := by omega
      have hfx : z - j = (z - (j + 1)) + 1 := by omega
      rw [hfx] at hgo
      by_cases hae : a + j = l.length
      · have HE : Hid (endR l a = (0, 2)) := Lib.hid (by
          have e : zr l z a = (0, 2) := by rw [hgo.out, zr, if_pos (by omega)]
          rw [HR.out, e]; rfl)
        have hae2 : ((a : Int) + (j : Int)) = (l.length : Int) := by omega
        clear hgo hfx hjz hae
        go_wp2_with fail
        go_ret2
        exact ⟨by rw [HE.out]; rfl, Below.refl _ _⟩
      · have hlt : a + j < l.length := by omega
        obtain ⟨b, off, rfl, hb, hcell⟩ := hB.addr (by omega)
        have hct := hcell (a + j) hlt
        have hgd : l[a + j] = l.getD (a + j) 0 := by simp [List.getD, hlt]
        rw [hgd] at hct
        obtain ⟨p, hp⟩ : ∃ p : Nat, a + j = p := ⟨_, rfl⟩
        have hpi : ((a : Int) + (j : Int)) = (p : Int) := by omega
        have hp2 : ((a + (j + 1) : Nat) : Int) = (p : Int) + 1 := by omega
        by_cases h0 : l.getD (a + j) 0 = 0
        · have HN : Hid (zr l z a = zr l (z - (j + 1)) (a + (j + 1))) := Lib.hid (by
            rw [hgo.out, zr, if_neg (by omega), if_neg (by rw [h0]; simp)]; rfl)
          rw [h0, hp] at hct
          have hpl : (p : Int) < (l.length : Int) := by omega
          have hne : ¬ (p : Int) = (l.length : Int) := by omega
          clear hgo hfx hjz hae hgd hcell h0
          go_wp2_with fail
          exact ⟨⟨j + 1, by omega, by go_num, by go_num, HN, by omega, trivial⟩, by simp [intOf]; omega⟩
        · have HE : Hid (endR l a = (0, 8)) := Lib.hid (by
            have e : zr l z a = (0, 8) := by rw [hgo.out, zr, if_neg (by omega), if_pos h0]
            rw [HR.out, e]; rfl)
          rw [hp] at hct h0
          have hpl : (p : Int) < (l.length : Int) := by omega
          have hne : ¬ (p : Int) = (l.length : Int) := by omega
          have hx0 : ¬ ((l.getD p 0).toNat : Int) = 0 := fun h => h0 (UInt8.toNat_inj.1 (by simpa using h))
          have hct2 : w.cell? ⟨b, off + p, none⟩ = some (.int .u8 ((l.getD p 0).toNat : Nat)) := hct
          generalize (l.getD p 0).toNat = x at *
          have hx1 : (0 : Int) < (x : Int) := by omega
          clear hgo hfx hjz hae hgd hcell h0 hct
          go_wp2_with fail
          go_ret2
          exact ⟨by rw [HE.out]; rfl, Below.refl _ _⟩
    · obtain rfl : j = z := by omega
      have hgo2 : zr l j a = (a + j, 0) := by rw [hgo.out, Nat.sub_self]; rfl
      have HE2 : Hid (endR l a = crcR l (a + j)) := Lib.hid (by rw [HR.out, hgo2]; rfl)
      obtain ⟨p, hp⟩ : ∃ p : Nat, a + j = p := ⟨_, rfl⟩
      have hpi : ((a : Int) + (j : Int)) = (p : Int) := by omega
      rw [hp] at HE2
      have hpl : (p : Int) ≤ (l.length : Int) := by omega
      clear hgo hgo2 hjz
      by_cases h4 : l.length < p + 4
      · have HE : Hid (endR l a = (0, 2)) := Lib.hid (by rw [HE2.out, crcR, if_pos h4])
        have h4i : (l.length : Int) - (p : Int) < 4 := by omega
        clear h4
        go_wp2_with fail
        go_ret2
        exact ⟨by rw [HE.out]; rfl, Below.refl _ _⟩
      · have hp4 : p + 4 ≤ l.length := by omega
        obtain ⟨b, off, rfl, hbl, _⟩ := hB.addr (by omega)
        have HR4 := Lib.hid (show crcR l p = if (part l p 4 == sum1 (l.take p)) = false then (0, 8) else (p + 4, 0) from by rw [crcR, if_neg h4])
        have HS1 := Lib.hid (sum1_length (l.take p))
        have HS := Lib.hid (show ∀ w', Bytes w' (some ⟨b, off, none⟩) l → Calls Tryd.prog 17 #[.int .i64 1, .slice (some ⟨b, off, none⟩) p c] w' (BytesDone w' (sum1 (l.take p))) from fun w' h => by
          have := chk1_any (some ⟨b, off, none⟩) (l.take p) c w' (h.take p) (by rw [List.length_take]; omega) hm
          rwa [show (l.take p).length = p by rw [List.length_take]; omega] at this)
        have HE := Lib.hid (show ∀ A2 c2 w', Bytes w' (some ⟨b, off, none⟩) l → Bytes w' A2 (sum1 (l.take p)) → Calls Tryd.prog 27 #[.slice (some ⟨b, off + p, none⟩) 4 (c - p), .slice A2 4 c2] w' fun e w'' => e = .returned (.bool (part l p 4 == sum1 (l.take p))) ∧ w' = w'' from fun A2 c2 w' h h2 => by
          have h3 : Bytes w' (some ⟨b, off + p, none⟩) (part l p 4) := (Bytes.drop p h).take 4
          have := equal_any _ _ (part l p 4) (sum1 (l.take p)) (c - p) c2 w' h3 h2
          rwa [part_length l p 4 hp4, sum1_length] at this)
        obtain ⟨t, ht⟩ : ∃ t : Nat, p + 4 = t := ⟨_, rfl⟩
        have HW : Hid (IntKind.i64.wrap ((p : Int) + 4) = (t : Int)) := Lib.hid (by rw [IntWalk.i64_in _ (by omega)]; omega)
        have HT4 : Hid (t - p = 4) := Lib.hid (by omega)
        have HC := Lib.hid (show (p : Int) + 4 ≤ (c : Int) ∧ ¬ c = p ∧ (p : Int) + 4 ≤ (l.length : Int) ∧ (p : Int) ≤ (l.length : Int) ∧ (p : Int) ≤ (c : Int) ∧ (0 : Int) ≤ (t : Int) ∧ (t : Int) ≤ (c : Int) ∧ p ≤ t by omega)
        clear ht
        have hni : ¬ (l.length : Int) - (p : Int) < 4 := by omega
        have hBB := Lib.hid hB
        generalize hv : (part l p 4 == sum1 (l.take p)) = v at *
        clear hv hp4 h4
        have hdr : Below w.heap.size w w.drew := below_drew w
        go_wp2_with fail
        refine wp_region_held_drew (S := fun w' => Below w.heap.size w w') (by kernel_rfl) hdr (fun hS => ?_)
        refine wpAnyH_take (i := 0) (oi := { dst := some 27, op := Op.move (Operand.tmp 0), type := 23, pos := "index.go:106", after := #[], guard := none }) (v := ?va1) rfl (by kernel_rfl) (by kernel_rfl) (by kernel_rfl) (fun _ _ _ h => h) (Or.inl ⟨by rfl, ?ya1⟩) hS ?_
        case ya1 =>
          intro w hSw
          go_simp; all_goals (with_reducible rfl)
        simp only [Act.put, List.setIfInBounds_toArray, List.set_cons_zero, List.set_cons_succ]
        refine wpAnyH_take (i := 1) (oi := { dst := some 28, op := Op.move (Operand.tmp 1), type := 3, pos := "index.go:106", after := #[], guard := none }) (v := ?va2) rfl (by kernel_rfl) (by kernel_rfl) (by kernel_rfl) (fun _ _ _ h => h) (Or.inl ⟨by rfl, ?ya2⟩) hS ?_
        case ya2 =>
          intro w hSw
          go_simp; all_goals (with_reducible rfl)
        simp only [Act.put, List.setIfInBounds_toArray, List.set_cons_zero, List.set_cons_succ]
        refine wpAnyH_take (i := 2) (oi := { dst := some 29, op := Op.move (Operand.tmp 1), type := 3, pos := "index.go:106", after := #[], guard := none }) (v := ?va3) rfl (by kernel_rfl) (by kernel_rfl) (by kernel_rfl) (fun _ _ _ h => h) (Or.inl ⟨by rfl, ?ya3⟩) hS ?_
        case ya3 =>
          intro w hSw
          go_simp; all_goals (with_reducible rfl)
        simp only [Act.put, List.setIfInBounds_toArray, List.set_cons_zero, List.set_cons_succ]
        refine wpAnyH_take (i := 3) (oi := { dst := some 30, op := Op.binOp BinOp.add 3 (Operand.tmp 29) (Operand.const (Value.int IntKind.i64 4)) 3, type := 3, pos := "index.go:106", after := #[{ on := 2, ground := Ground.data }], guard := none }) (v := ?va4) rfl (by kernel_rfl) (by kernel_rfl) (by kernel_rfl) (fun _ _ _ h => h) (Or.inl ⟨by rfl, ?ya4⟩) hS ?_
        case ya4 =>
          intro w hSw
          go_simp; all_goals (with_reducible rfl)
        simp only [Act.put, List.setIfInBounds_toArray, List.set_cons_zero, List.set_cons_succ]
        rw [HW.out]
        refine wpAnyH_take (i := 4) (oi := { dst := some 31, op := Op.slice 23 (Operand.tmp 27) (some (Operand.tmp 28)) (some (Operand.tmp 30)) none, type := 23, pos := "index.go:106", after := #[{ on := 0, ground := Ground.data }, { on := 1, ground := Ground.data }, { on := 3, ground := Ground.data }], guard := none }) (v := ?va5) rfl (by kernel_rfl) (by kernel_rfl) (by kernel_rfl) (fun _ _ _ h => h) (Or.inl ⟨by rfl, ?ya5⟩) hS ?_
        case ya5 =>
          intro w hSw
          obtain ⟨hc4, hca, hl4, hla, hac, ht0, htc, hpt⟩ := HC.out
          go_simp; all_goals (with_reducible rfl)
        simp only [Act.put, List.setIfInBounds_toArray, List.set_cons_zero, List.set_cons_succ]
        rw [HT4.out]
        refine wpAnyH_take (i := 5) (oi := { dst := some 32, op := Op.move (Operand.tmp 0), type := 23, pos := "index.go:106", after := #[], guard := none }) (v := ?va6) rfl (by kernel_rfl) (by kernel_rfl) (by kernel_rfl) (fun _ _ _ h => h) (Or.inl ⟨by rfl, ?ya6⟩) hS ?_
        case ya6 =>
          intro w hSw
          go_simp; all_goals (with_reducible rfl)
        simp only [Act.put, List.setIfInBounds_toArray, List.set_cons_zero, List.set_cons_succ]
        refine wpAnyH_take (i := 6) (oi := { dst := some 33, op := Op.move (Operand.tmp 1), type := 3, pos := "index.go:106", after := #[], guard := none }) (v := ?va7) rfl (by kernel_rfl) (by kernel_rfl) (by kernel_rfl) (fun _ _ _ h => h) (Or.inl ⟨by rfl, ?ya7⟩) hS ?_
        case ya7 =>
          intro w hSw
          go_simp; all_goals (with_reducible rfl)
        simp only [Act.put, List.setIfInBounds_toArray, List.set_cons_zero, List.set_cons_succ]
        refine wpAnyH_take (i := 7) (oi := { dst := some 34, op := Op.slice 23 (Operand.tmp 32) none (some (Operand.tmp 33)) none, type := 23, pos := "index.go:106", after := #[{ on := 5, ground := Ground.data }, { on := 6, ground := Ground.data }], guard := none }) (v := ?va8) rfl (by kernel_rfl) (by kernel_rfl) (by kernel_rfl) (fun _ _ _ h => h) (Or.inl ⟨by rfl, ?ya8⟩) hS ?_
        case ya8 =>
          intro w hSw
          obtain ⟨hc4, hca, hl4, hla, hac, ht0, htc, hpt⟩ := HC.out
          go_simp; all_goals (with_reducible rfl)
        simp only [Act.put, List.setIfInBounds_toArray, List.set_cons_zero, List.set_cons_succ]
        refine wpAnyH_ready (rs := [8]) (by kernel_rfl) (by simp) ?_
        refine (AllReadyH.cons (o := { dst := some 35, op := Op.call { callee := Callee.value (Operand.func 17), args := #[Operand.const (Value.int IntKind.i64 1), Operand.tmp 34], argTypes := #[3, 23] }, type := 23, pos := "index.go:106", after := #[{ on := 7, ground := Ground.data }], guard := none }) rfl (fun K hK => ?_) AllReadyH.nil)
        go_simp
        refine (HS.out w.drew (hBB.out.below hdr)).mono ?_
        rintro e w2 ⟨A2, c2, rfl, hc2, hm2, hB2, hb2⟩
        have g2 : Below w.heap.size w w2 := hdr.trans (hb2.mono hdr.size)
        have HEQ := Lib.hid (HE.out A2 c2 w2 (hBB.out.below g2) hB2)
        rw [HS1.out]
        clear hB2 hb2
        go_wp2_with fail
        refine hK.out _ _ g2 (fun _ => ?_)
        clear hK K
        refine wpAnyH_ready (rs := [9]) (by kernel_rfl) (by simp) ?_
        refine (AllReadyH.cons (o := { dst := some 36, op := Op.call { callee := Callee.value (Operand.func 27), args := #[Operand.tmp 31, Operand.tmp 35], argTypes := #[23, 23] }, type := 4, pos := "index.go:106", after := #[{ on := 4, ground := Ground.data }, { on := 8, ground := Ground.data }, { on := 8, ground := Ground.chain }], guard := none }) rfl (fun K hK => ?_) AllReadyH.nil)
        go_simp
        refine HEQ.out.mono ?_
        rintro e w3 ⟨rfl, rfl⟩
        go_wp2_with fail
        refine hK.out _ _ g2 (fun _ => ?_)
        clear hK K
        refine wpAnyH_take (i := 10) (oi := { dst := some 37, op := Op.unOp UnOp.not 4 (Operand.tmp 36), type := 4, pos := "index.go:106", after := #[{ on := 9, ground := Ground.data }], guard := none }) (v := ?va9) rfl (by kernel_rfl) (by kernel_rfl) (by kernel_rfl) (fun _ _ _ h => h) (Or.inl ⟨by rfl, ?ya9⟩) g2 ?_
        case ya9 =>
          intro w hSw
          go_simp; all_goals (with_reducible rfl)
        simp only [Act.put, List.setIfInBounds_toArray, List.set_cons_zero, List.set_cons_succ]
        refine wpAnyH_done (by kernel_rfl) ?_ _
        cases v with
        | false =>
          have HF : Hid (endR l a = (0, 8)) := Lib.hid (by rw [HE2.out, HR4.out, if_pos rfl])
          go_wp2_with fail
          go_ret2
          exact ⟨by rw [HF.out]; rfl, g2⟩
        | true =>
          have HF : Hid (endR l a = (p + 4, 0)) := Lib.hid (by rw [HE2.out, HR4.out, if_neg (by simp)])
          go_wp2_with fail
          go_ret2
          exact ⟨by rw [HF.out]; rfl, g2⟩
end Go.Proofs.YthfmhjpmcapcbaaDoor
