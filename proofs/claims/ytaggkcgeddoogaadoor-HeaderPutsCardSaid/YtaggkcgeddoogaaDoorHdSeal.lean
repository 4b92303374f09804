/- header.sealed. -/
import Derived.Test.YtaggkcgeddoogaaDoorHdSizes
import Derived.Test.YtaggkcgeddoogaaDoorShelf
import Derived.Deep.RegionHeld3
namespace Go.Proofs.YtaggkcgeddoogaaDoor
open Go.RowKit

theorem equal_any (A B : Option Addr) (l m : List UInt8) (c d : Nat) (w : World) (h1 : Bytes w A l) (h2 : Bytes w B m) : Calls Tryd.prog 27 #[.slice A l.length c, .slice B m.length d] w fun e w' => e = .returned (.bool (l == m)) ∧ w = w' := by
  refine (Shelf_bytes_Equal_strs (.slice A l.length c) (.slice B m.length d) ⟨l.toArray⟩ ⟨m.toArray⟩ w (run_str h1 c) (run_str h2 d)).mono fun e w' h => ?_
  obtain ⟨rfl, rfl⟩ := h
  rw [ByteArray.toList_mk, ByteArray.toList_mk]
  exact ⟨rfl, rfl⟩
def SealDone (l : List UInt8) (A : Option Addr) (c : Nat) (w : World) (e : Ending) (w' : World) : Prop :=
  Below w.heap.size w w' ∧ (((sealM l).2 = 0 ∧ e = .returned (.tuple #[.slice A (sizeB l - 4) c, .int .i64 0])) ∨ ((sealM l).2 ≠ 0 ∧ e = .returned (.tuple #[.slice none 0 0, .int .i64 ((sealM l).2 : Nat)])))
theorem SealDone.err {l : List UInt8} {A : Option Addr} {c er : Nat} {w w' : World} (h : sealM l = ([], er)) (h0 : er ≠ 0) (hb : Below w.heap.size w w') : SealDone l A c w (.returned (.tuple #[.slice none 0 0, .int .i64 (er : Nat)])) w' := by
  unfold SealDone; rw [h]; exact ⟨hb, .inr ⟨h0, rfl⟩⟩
theorem SealDone.yes {l x : List UInt8} {A : Option Addr} {c n : Nat} {w w' : World} (h : sealM l = (x, 0)) (hn : n = sizeB l - 4) (hb : Below w.heap.size w w') : SealDone l A c w (.returned (.tuple #[.slice A n c, .int .i64 0])) w' := by
  unfold SealDone; rw [h, hn]; exact ⟨hb, .inl ⟨rfl, rfl⟩⟩

set_option maxRecDepth 100000 in
set_option maxHeartbeats 2000000 in
theorem hseal_any (A : Option Addr) (l : List UInt8) (c : Nat) (w : World) (hB : Bytes w A l) (hc : l.length ≤ c) (hm : c ≤ 9223372036854775807) (hl : l.length ≤ 1000000) :
    Calls Tryd.prog 21 #[.slice A l.length c] w (SealDone l A c w) := by
  have HB := Lib.hid hB
  have hdef : sealM l = if l.length = 0 then ([], 2) else if l.getD 0 0 = 0 then ([], 4) else if l.length < sizeB l then ([], 2)
    else if (sum1 (l.take (sizeB l - 4)) == part l (sizeB l - 4) 4) = false then ([], 4) else (l.take (sizeB l - 4), 0) := rfl
  by_cases h0 : l.length = 0
  · have HF := Lib.hid (show sealM l = ([], 2) by rw [hdef, if_pos h0])
    have h0i : (l.length : Int) = 0 := by omega
    rw [h0]
    clear hB hdef h0
    go_enter Tryd.func21, Tryd.ntmps21
    go_wp2_with fail
    go_ret2
    exact SealDone.err HF.out (by decide) (Below.refl _ _)
  rw [if_neg h0] at hdef
  obtain ⟨b, off, rfl, hbl, hcell⟩ := hB.addr (by omega)
  have k0 : w.cell? ⟨b, off + 0, none⟩ = some (B8 (l[0]'(by omega))) := hcell 0 (by omega)
  have hgd : l[0]'(by omega) = l.getD 0 0 := by simp [List.getD, show 0 < l.length by omega]
  rw [hgd, Nat.add_zero] at k0
  have hlp : (0 : Int) < (l.length : Int) := by omega
  have hln : ¬ (l.length : Int) = 0 := by omega
  clear hcell hgd hB h0
  by_cases hx : l.getD 0 0 = 0
  · have HF := Lib.hid (show sealM l = ([], 4) by rw [hdef, if_pos hx])
    rw [hx] at k0
    have k1 : w.cell? ⟨b, off, none⟩ = some (.int .u8 0) := k0
    clear k0 hdef hx
    go_enter Tryd.func21, Tryd.ntmps21
    go_wp2_with fail
    go_ret2
    exact SealDone.err HF.out (by decide) (Below.refl _ _)
  rw [if_neg hx] at hdef
  have hxt : 0 < (l.getD 0 0).toNat := by
    rcases Nat.eq_zero_or_pos (l.getD 0 0).toNat with h | h
    · exact absurd (UInt8.toNat_inj.1 (by simpa using h)) hx
    · exact h
  have hx256 := (l.getD 0 0).toNat_lt
  have hsz : sizeB l = 4 * (l.getD 0 0).toNat + 4 := rfl
  have k1 : w.cell? ⟨b, off, none⟩ = some (.int .u8 ((l.getD 0 0).toNat : Nat)) := k0
  clear k0 hx
  generalize (l.getD 0 0).toNat = x at *
  have hx0 : ((x : Int) == 0) = false := by simp; omega
  obtain ⟨Z, hZ⟩ : ∃ Z, sizeB l = Z := ⟨_, rfl⟩
  have HZ := Lib.hid hZ
  rw [hZ] at hdef hsz
  have hzi : ((x : Int) + 1) * 4 = (Z : Int) := by omega
  have hZb : Z ≤ 1024 := by omega
  have hZb8 : 8 ≤ Z := by omega
  by_cases hlt : l.length < Z
  · have HF := Lib.hid (show sealM l = ([], 2) by rw [hdef, if_pos hlt])
    have hlti : (l.length : Int) < (Z : Int) := by omega
    clear hdef hlt hZ hsz hxt
    go_enter Tryd.func21, Tryd.ntmps21
    go_wp2_with fail
    go_ret2
    exact SealDone.err HF.out (by decide) (Below.refl _ _)
  rw [if_neg hlt] at hdef
  have hlti : (Z : Int) ≤ (l.length : Int) := by omega
  have hltd : decide ((l.length : Int) < (Z : Int)) = false := by simp; omega
  obtain ⟨p, hp⟩ : ∃ p, Z - 4 = p := ⟨_, rfl⟩
  have HP := Lib.hid hp
  rw [hp] at hdef
  have HW : Hid (IntKind.i64.wrap ((Z : Int) - 4) = (p : Int)) := Lib.hid (by rw [IntWalk.i64_in _ (by omega)]; omega)
  have HT4 : Hid (Z - p = 4) := Lib.hid (by omega)
  have HC := Lib.hid (show (p : Int) ≤ (c : Int) ∧ (0 : Int) ≤ (p : Int) ∧ (p : Int) ≤ (Z : Int) ∧ (Z : Int) ≤ (c : Int) ∧ ¬ c = p ∧ p ≤ Z ∧ (p : Int) ≤ (l.length : Int) by omega)
  have htl : (l.take p).length = p := by rw [List.length_take]; omega
  have hpl := part_length l p 4 (by omega)
  have HS1 := Lib.hid (sum1_length (l.take p))
  have HS := Lib.hid (show ∀ w', Bytes w' (some ⟨b, off, none⟩) l → Calls Tryd.prog 18 #[.int .i64 1, .slice (some ⟨b, off, none⟩) p c] w' (BytesDone w' (sum1 (l.take p))) from fun w' h => by
    have := chk1_any (some ⟨b, off, none⟩) (l.take p) c w' (h.take p) (by rw [htl]; omega) hm
    rwa [htl] at this)
  have HE := Lib.hid (show ∀ A2 c2 w', Bytes w' (some ⟨b, off, none⟩) l → Bytes w' A2 (sum1 (l.take p)) → Calls Tryd.prog 27 #[.slice A2 4 c2, .slice (some ⟨b, off + p, none⟩) 4 (c - p)] w' fun e w'' => e = .returned (.bool (sum1 (l.take p) == part l p 4)) ∧ w' = w'' from fun A2 c2 w' h h2 => by
    have h3 : Bytes w' (some ⟨b, off + p, none⟩) (part l p 4) := (Bytes.drop p h).take 4
    have := equal_any _ _ (sum1 (l.take p)) (part l p 4) c2 (c - p) w' h2 h3
    rwa [hpl, sum1_length] at this)
  have hdr : Below w.heap.size w w.drew := below_drew w
  generalize hv : (sum1 (l.take p) == part l p 4) = v at *
  have HDEF := Lib.hid hdef
  clear hdef hv hlt hZ hsz hxt hp htl hpl
  go_enter Tryd.func21, Tryd.ntmps21
  go_wp2_with fail
  refine wp_region_held_drew (S := fun w' => Below w.heap.size w w') (by kernel_rfl) hdr (fun hS => ?_)
  refine wpAnyH_take (i := 0) (oi := { dst := some 24, op := Op.move (Operand.tmp 0), type := 26, pos := "header.go:123", after := #[], guard := none }) (v := ?vse1) rfl (by kernel_rfl) (by kernel_rfl) (by kernel_rfl) (fun _ _ _ h => h) (Or.inl ⟨by rfl, ?yse1⟩) hS ?_
  case yse1 =>
    intro w hSw
    go_simp; all_goals (with_reducible rfl)
  simp only [Act.put, List.setIfInBounds_toArray, List.set_cons_zero, List.set_cons_succ]
  refine wpAnyH_take (i := 1) (oi := { dst := some 25, op := Op.move (Operand.tmp 4), type := 3, pos := "header.go:123", after := #[], guard := none }) (v := ?vse2) rfl (by kernel_rfl) (by kernel_rfl) (by kernel_rfl) (fun _ _ _ h => h) (Or.inl ⟨by rfl, ?yse2⟩) hS ?_
  case yse2 =>
    intro w hSw
    go_simp; all_goals (with_reducible rfl)
  simp only [Act.put, List.setIfInBounds_toArray, List.set_cons_zero, List.set_cons_succ]
  refine wpAnyH_take (i := 2) (oi := { dst := some 26, op := Op.binOp BinOp.sub 3 (Operand.tmp 25) (Operand.const (Value.int IntKind.i64 4)) 3, type := 3, pos := "header.go:123", after := #[{ on := 1, ground := Ground.data }], guard := none }) (v := ?vse3) rfl (by kernel_rfl) (by kernel_rfl) (by kernel_rfl) (fun _ _ _ h => h) (Or.inl ⟨by rfl, ?yse3⟩) hS ?_
  case yse3 =>
    intro w hSw
    go_simp; all_goals (with_reducible rfl)
  simp only [Act.put, List.setIfInBounds_toArray, List.set_cons_zero, List.set_cons_succ]
  rw [HW.out]
  refine wpAnyH_take (i := 3) (oi := { dst := some 27, op := Op.slice 26 (Operand.tmp 24) none (some (Operand.tmp 26)) none, type := 26, pos := "header.go:123", after := #[{ on := 0, ground := Ground.data }, { on := 2, ground := Ground.data }], guard := none }) (v := ?vse4) rfl (by kernel_rfl) (by kernel_rfl) (by kernel_rfl) (fun _ _ _ h => h) (Or.inl ⟨by rfl, ?yse4⟩) hS ?_
  case yse4 =>
    intro w hSw
    obtain ⟨i1, i2, i3, i4, i5, i6, i7⟩ := HC.out
    go_simp; all_goals (with_reducible rfl)
  simp only [Act.put, List.setIfInBounds_toArray, List.set_cons_zero, List.set_cons_succ]
  refine wpAnyH_take (i := 4) (oi := { dst := some 28, op := Op.move (Operand.tmp 0), type := 26, pos := "header.go:123", after := #[], guard := none }) (v := ?vse5) rfl (by kernel_rfl) (by kernel_rfl) (by kernel_rfl) (fun _ _ _ h => h) (Or.inl ⟨by rfl, ?yse5⟩) hS ?_
  case yse5 =>
    intro w hSw
    go_simp; all_goals (with_reducible rfl)
  simp only [Act.put, List.setIfInBounds_toArray, List.set_cons_zero, List.set_cons_succ]
  refine wpAnyH_take (i := 5) (oi := { dst := some 29, op := Op.move (Operand.tmp 4), type := 3, pos := "header.go:123", after := #[], guard := none }) (v := ?vse6) rfl (by kernel_rfl) (by kernel_rfl) (by kernel_rfl) (fun _ _ _ h => h) (Or.inl ⟨by rfl, ?yse6⟩) hS ?_
  case yse6 =>
    intro w hSw
    go_simp; all_goals (with_reducible rfl)
  simp only [Act.put, List.setIfInBounds_toArray, List.set_cons_zero, List.set_cons_succ]
  refine wpAnyH_take (i := 6) (oi := { dst := some 30, op := Op.binOp BinOp.sub 3 (Operand.tmp 29) (Operand.const (Value.int IntKind.i64 4)) 3, type := 3, pos := "header.go:123", after := #[{ on := 5, ground := Ground.data }], guard := none }) (v := ?vse7) rfl (by kernel_rfl) (by kernel_rfl) (by kernel_rfl) (fun _ _ _ h => h) (Or.inl ⟨by rfl, ?yse7⟩) hS ?_
  case yse7 =>
    intro w hSw
    go_simp; all_goals (with_reducible rfl)
  simp only [Act.put, List.setIfInBounds_toArray, List.set_cons_zero, List.set_cons_succ]
  rw [HW.out]
  refine wpAnyH_take (i := 7) (oi := { dst := some 31, op := Op.move (Operand.tmp 4), type := 3, pos := "header.go:123", after := #[], guard := none }) (v := ?vse8) rfl (by kernel_rfl) (by kernel_rfl) (by kernel_rfl) (fun _ _ _ h => h) (Or.inl ⟨by rfl, ?yse8⟩) hS ?_
  case yse8 =>
    intro w hSw
    go_simp; all_goals (with_reducible rfl)
  simp only [Act.put, List.setIfInBounds_toArray, List.set_cons_zero, List.set_cons_succ]
  refine wpAnyH_take (i := 8) (oi := { dst := some 32, op := Op.slice 26 (Operand.tmp 28) (some (Operand.tmp 30)) (some (Operand.tmp 31)) none, type := 26, pos := "header.go:123", after := #[{ on := 4, ground := Ground.data }, { on := 6, ground := Ground.data }, { on := 7, ground := Ground.data }], guard := none }) (v := ?vse9) rfl (by kernel_rfl) (by kernel_rfl) (by kernel_rfl) (fun _ _ _ h => h) (Or.inl ⟨by rfl, ?yse9⟩) hS ?_
  case yse9 =>
    intro w hSw
    obtain ⟨i1, i2, i3, i4, i5, i6, i7⟩ := HC.out
    go_simp; all_goals (with_reducible rfl)
  simp only [Act.put, List.setIfInBounds_toArray, List.set_cons_zero, List.set_cons_succ]
  rw [HT4.out]
  refine wpAnyH_take (i := 9) (oi := { dst := some 5, op := Op.assign (Operand.tmp 27), type := 26, pos := "header.go:123", after := #[{ on := 3, ground := Ground.data }, { on := 0, ground := Ground.phase }, { on := 1, ground := Ground.phase }, { on := 2, ground := Ground.phase }, { on := 3, ground := Ground.phase }, { on := 4, ground := Ground.textOnly Departure.lateStores }, { on := 5, ground := Ground.textOnly Departure.lateStores }, { on := 6, ground := Ground.textOnly Departure.lateStores }, { on := 7, ground := Ground.textOnly Departure.lateStores }, { on := 8, ground := Ground.textOnly Departure.lateStoresUnsure }], guard := none }) (v := ?vse10) rfl (by kernel_rfl) (by kernel_rfl) (by kernel_rfl) (fun _ _ _ h => h) (Or.inl ⟨by rfl, ?yse10⟩) hS ?_
  case yse10 =>
    intro w hSw
    go_simp; all_goals (with_reducible rfl)
  simp only [Act.put, List.setIfInBounds_toArray, List.set_cons_zero, List.set_cons_succ]
  refine wpAnyH_take (i := 10) (oi := { dst := some 6, op := Op.assign (Operand.tmp 32), type := 26, pos := "header.go:123", after := #[{ on := 8, ground := Ground.data }, { on := 9, ground := Ground.chain }, { on := 0, ground := Ground.phase }, { on := 1, ground := Ground.phase }, { on := 2, ground := Ground.phase }, { on := 3, ground := Ground.phase }, { on := 4, ground := Ground.phase }, { on := 5, ground := Ground.phase }, { on := 6, ground := Ground.phase }, { on := 7, ground := Ground.phase }, { on := 8, ground := Ground.phase }, { on := 9, ground := Ground.phase }], guard := none }) (v := ?vse11) rfl (by kernel_rfl) (by kernel_rfl) (by kernel_rfl) (fun _ _ _ h => h) (Or.inl ⟨by rfl, ?yse11⟩) hS ?_
  case yse11 =>
    intro w hSw
    go_simp; all_goals (with_reducible rfl)
  simp only [Act.put, List.setIfInBounds_toArray, List.set_cons_zero, List.set_cons_succ]
  refine wpAnyH_done (by kernel_rfl) ?_ _
  go_wp2_with fail
  refine (HS.out w.drew (HB.out.below hdr)).mono ?_
  rintro e w2 ⟨A2, c2, rfl, hc2, hm2, hB2, hb2⟩
  have g2 : Below w.heap.size w w2 := hdr.trans (hb2.mono hdr.size)
  have HEQ := Lib.hid (HE.out A2 c2 w2 (HB.out.below g2) hB2)
  rw [HS1.out]
  clear hB2 hb2 hc2
  go_wp2_with fail
  refine HEQ.out.mono ?_
  rintro e w3 ⟨rfl, rfl⟩
  cases v with
  | false =>
    have HF := Lib.hid (show sealM l = ([], 4) by rw [HDEF.out, if_pos rfl])
    go_wp2_with fail
    go_ret2
    exact SealDone.err HF.out (by decide) g2
  | true =>
    have HF := Lib.hid (show sealM l = (l.take p, 0) by rw [HDEF.out, if_neg (by simp)])
    go_wp2_with fail
    go_ret2
    exact SealDone.yes HF.out (by rw [HZ.out, HP.out]) g2
end Go.Proofs.YtaggkcgeddoogaaDoor
