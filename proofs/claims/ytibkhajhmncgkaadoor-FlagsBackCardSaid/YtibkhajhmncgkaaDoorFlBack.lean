/- The contract of FlagsBack. -/
import Derived.Test.YtibkhajhmncgkaaDoorFlBits
import Derived.Test.YtibkhajhmncgkaaDoorFlWrite
namespace Go.Proofs.YtibkhajhmncgkaaDoor
open Go.RowKit

theorem FreshAt.other {w : World} {g b o : Nat} {L : List UInt8} (h : FreshAt w g L) (hne : g ≠ b) (v : Value) : FreshAt (w.setCell ⟨b, o, none⟩ v).drew g L := fun i hi => by
  obtain ⟨h1, h2⟩ := h i hi
  exact ⟨(World.cell?_setCell_far _ _ _ _ (by simp; exact fun e => hne e.symm)).trans h1, by rw [World.frozen?_drew, World.frozen?_setCell]; exact h2⟩
theorem FreshAt.turn {w : World} {g : Nat} {L : List UInt8} (h : FreshAt w g L) (i : Nat) : FreshAt (w.setCell ⟨g, i / 8, none⟩ (B8 (L.getD (i / 8) 0 ^^^ mask i))).drew g (turn L i) := fun j hj => by
  have hj2 : j < L.length := by rw [turn_length] at hj; exact hj
  obtain ⟨h1, h2⟩ := h j hj2
  refine ⟨?_, by rw [World.frozen?_drew, World.frozen?_setCell]; exact h2⟩
  by_cases e : i / 8 = j
  · subst e
    have : (Go.Proofs.YtibkhajhmncgkaaDoor.turn L i)[i / 8]'hj = L.getD (i / 8) 0 ^^^ mask i := by unfold Go.Proofs.YtibkhajhmncgkaaDoor.turn; exact List.getElem_set_self _
    rw [this]
    exact World.cell?_setCell_same' _ _ _ (by rw [h1]; rfl)
  · have : (Go.Proofs.YtibkhajhmncgkaaDoor.turn L i)[j]'hj = L[j] := by unfold Go.Proofs.YtibkhajhmncgkaaDoor.turn; exact List.getElem_set_ne e _
    rw [this]
    exact (World.cell?_setCell_other _ _ _ _ (by simp)).trans h1

theorem xor_mask (x : UInt8) (i m : Nat) (hm : i % 8 = m) : bits BinOp.xor IntKind.u8 (x.toNat : Int) (IntKind.u8.wrap (2 ^ m)) = ((x ^^^ mask i).toNat : Int) := by
  have hp : 2 ^ m < 2 ^ 8 := Nat.pow_lt_pow_right (by omega) (show m < 8 by omega)
  have e0 : (2 : Int) ^ m = ((2 ^ m : Nat) : Int) := by simp
  have e2 : (mask i).toNat = 2 ^ m := by unfold mask; rw [hm, UInt8.toNat_ofNat']; exact Nat.mod_eq_of_lt hp
  rw [e0]
  generalize 2 ^ m = P at hp e2
  rw [IntWalk.u8_in _ (by omega), u8_xor_nat _ _ x.toNat_lt (by omega), UInt8.toNat_xor, e2]

set_option maxRecDepth 100000 in
set_option maxHeartbeats 4000000 in
theorem back_no (c s : Int) (bit : Nat) (w : World) (hlo : -9223372036854775808 ≤ s) (hhi : s ≤ 9223372036854775807) (hT : Tabs w) (hf : fineB c = false) :
    Calls Tryd.prog 5 #[.int .i64 c, .int .i64 s, .int .u8 (bit : Nat)] w (Holds w) := by
  have H2 := Lib.hid (head_no c w hf)
  have H3 := Lib.hid (fun w' => foot_no c s w' hlo hhi (.inl hf))
  have HT := Lib.hid hT
  clear hf hT
  go_enter Tryd.func5, Tryd.ntmps5
  go_wp2_with fail
  refine H2.out.mono ?_
  rintro e w1 ⟨rfl, hb1⟩
  go_wp2_with fail
  refine (H3.out w1).mono ?_
  rintro e w2 ⟨rfl, hb2⟩
  have g2 := hb1.trans (hb2.mono hb1.size)
  have HK := Lib.hid (fl_knows w2 (HT.out.below g2))
  clear hb1 hb2
  go_wp2_with fail
  refine HK.out.mono ?_
  rintro e w3 ⟨rfl, hb3⟩
  go_wp2_with fail
  go_ret
  exact ⟨rfl, g2.trans (hb3.mono g2.size)⟩

/-- A reader's answer: a check, and fine. -/
def BackOk (c : Int) (e : Ending) (w w' : World) : Prop := e = .returned (.tuple #[.int .i64 c, .int .i64 0]) ∧ Below w.heap.size w w'
def BackNo (e : Ending) (w w' : World) : Prop := ∃ a h : Int, h ≠ 0 ∧ e = .returned (.tuple #[.int .i64 a, .int .i64 h]) ∧ Below w.heap.size w w'
def FootOk (c s : Int) (e : Ending) (w w' : World) : Prop := e = .returned (.tuple #[.int .i64 c, .int .i64 s, .int .i64 0]) ∧ Below w.heap.size w w'
def FootNo (e : Ending) (w w' : World) : Prop := ∃ a n h : Int, h ≠ 0 ∧ e = .returned (.tuple #[.int .i64 a, .int .i64 n, .int .i64 h]) ∧ Below w.heap.size w w'
set_option maxRecDepth 100000 in
set_option maxHeartbeats 4000000 in
theorem back_yes (b : UInt8) (s : Int) (bit : Nat) (w : World) (hlo : -9223372036854775808 ≤ s) (hhi : s ≤ 9223372036854775807) (hbit : bit < 256) (hT : Tabs w) (hf : fineB (b.toNat : Nat) = true) :
    Calls Tryd.prog 5 #[.int .i64 (b.toNat : Nat), .int .i64 s, .int .u8 (bit : Nat)] w (Holds w) := by
  have H2 := Lib.hid (head_yes b w hT hf)
  have HLH := Lib.hid (headL_length b)
  have HT := Lib.hid hT
  have hb0 : (0 : Int) ≤ (b.toNat : Int) := by omega
  have hb9 : (b.toNat : Int) < 256 := by have := b.toNat_lt; omega
  have hbi : (bit : Int) < 256 := by omega
  obtain ⟨i, hi⟩ : ∃ i : Nat, (bit : Int) % 96 = (i : Int) := ⟨bit % 96, by omega⟩
  have hi9 : (i : Int) < 96 := by omega
  have hi0 : (0 : Int) ≤ (i : Int) := by omega
  have HI := Lib.hid hi
  have HR := Lib.hid (show ∀ (g : Nat) (cap : Nat) (w' : World), 12 ≤ cap → cap ≤ 9223372036854775807 → Tabs w' → Bytes w' (some ⟨g, 0, none⟩) (headL b) → Calls Tryd.prog 16 #[.slice (some ⟨g, 0, none⟩) 12 cap] w' fun e w'' => BackOk (b.toNat : Nat) e w' w'' from fun g cap w' h1 h2 h3 h4 => by
    have := readHead_any _ (headL b) cap w' h3 h4 (by rw [headL_length]; exact h1) h2 (by rw [headL_length]; omega)
    rw [headL_length, head_back b hf] at this
    exact this)
  have HR2 := Lib.hid (show ∀ (g : Nat) (cap : Nat) (w' : World), 12 ≤ cap → cap ≤ 9223372036854775807 → Tabs w' → Bytes w' (some ⟨g, 0, none⟩) (turn (headL b) i) → Calls Tryd.prog 16 #[.slice (some ⟨g, 0, none⟩) 12 cap] w' fun e w'' => BackNo e w' w'' from fun g cap w' h1 h2 h3 h4 => by
    have hl : (turn (headL b) i).length = 12 := by rw [turn_length, headL_length]
    have := readHead_any _ (turn (headL b) i) cap w' h3 h4 (by rw [hl]; exact h1) h2 (by rw [hl]; omega)
    rw [hl] at this
    exact this.mono fun e w' h => ⟨_, _, head_turned b hf i (by omega), h⟩)
  obtain ⟨q, hq⟩ : ∃ q : Nat, i / 8 = q := ⟨_, rfl⟩
  have HQ : Hid (IntKind.i64.wrap ((i : Int) / 8) = (q : Int)) := Lib.hid (by rw [IntWalk.i64_in _ (by omega)]; omega)
  have hq0 : (0 : Int) ≤ (q : Int) := by omega
  have hq9 : (q : Int) < 12 := by omega
  have HQ2 := Lib.hid hq
  obtain ⟨m, hm⟩ : ∃ m : Nat, i % 8 = m := ⟨_, rfl⟩
  have HM : Hid ((i : Int).tmod 8 = (m : Int)) := Lib.hid (by rw [Int.tmod_eq_emod_of_nonneg hi0]; omega)
  have hm0 : (0 : Int) ≤ (m : Int) := by omega
  have hm7 : (m : Int) ≤ 8 := by omega
  have HM2 := Lib.hid hm
  clear hT hbit hi hq hm
  cases hs : sizeOk s with
  | false =>
    have H3 := Lib.hid (fun w' => foot_no (b.toNat : Nat) s w' hlo hhi (.inr hs))
    clear hf hs
    go_enter Tryd.func5, Tryd.ntmps5
    go_wp2_with fail
    refine H2.out.mono ?_
    rintro e w1 ⟨gx, capx, rfl, hcx, hmx, hgx0, hgx, hFx, hb1⟩
    rw [HLH.out]
    rw [HLH.out] at hcx
    go_wp2_with fail
    refine (H3.out w1).mono ?_
    rintro e w2 ⟨rfl, hb2⟩
    have g2 := hb1.trans (hb2.mono hb1.size)
    have hF2 := hFx.below hgx hb2
    have hgx2 : gx < w2.heap.size := Nat.lt_of_lt_of_le hgx hb2.size
    have HN := Lib.hid (HR.out gx capx w2 hcx hmx (HT.out.below g2) (hF2.bytes hgx2))
    clear hb1 hb2 hFx hgx
    go_wp2_with fail
    refine HN.out.mono ?_
    rintro e w3 ⟨rfl, hb3⟩
    have g3 := g2.trans (hb3.mono g2.size)
    have HF3 := Lib.hid (hF2.below hgx2 hb3)
    have hgx3 : gx < w3.heap.size := Nat.lt_of_lt_of_le hgx2 hb3.size
    clear g2 hF2 hgx2 HN hb3
    go_wp2_with fail
    rw [HI.out]
    have hl12 : i / 8 < (headL b).length := by rw [headL_length]; omega
    obtain ⟨k0, z0⟩ := HF3.out (i / 8) hl12
    have hge : (headL b)[i / 8] = (headL b).getD (i / 8) 0 := by simp [List.getD, hl12]
    rw [hge] at k0
    have HX : Hid (FreshAt (w3.setCell ⟨gx, i / 8, none⟩ (.int .u8 (((headL b).getD (i / 8) 0 ^^^ mask i).toNat : Nat))).drew gx (turn (headL b) i)) := Lib.hid (HF3.out.turn i)
    generalize hxx : (headL b).getD (i / 8) 0 = x at k0 HX
    rw [HQ2.out] at k0 z0 HX
    obtain ⟨v, hv⟩ : ∃ v : UInt8, x ^^^ mask i = v := ⟨_, rfl⟩
    rw [hv] at HX
    have k1 : w3.cell? ⟨gx, q, none⟩ = some (.int .u8 (x.toNat : Nat)) := k0
    have HV : Hid (bits BinOp.xor IntKind.u8 (x.toNat : Int) (IntKind.u8.wrap (2 ^ m)) = (v.toNat : Int)) := Lib.hid (by rw [xor_mask x i m HM2.out, hv])
    have g4 : Below w.heap.size w (w3.setCell ⟨gx, q, none⟩ (.int .u8 (v.toNat : Nat))).drew := (g3.setCell hgx0 _).drew
    have hgx5 : gx < (w3.setCell ⟨gx, q, none⟩ (.int .u8 (v.toNat : Nat))).drew.heap.size := by show _ < (World.setCell _ _ _).heap.size; rw [Go.Deep.nblk_setCell]; exact hgx3
    clear k0 hl12 hge hxx hv
    refine wp_region_held_drew (S := fun _ => True) (by kernel_rfl) trivial (fun hS => ?_)
    refine wpAnyH_take (i := 0) (oi := { dst := some 65, op := Op.move (Operand.tmp 7), type := 22, pos := "law.go:64", after := #[], guard := none }) (v := ?va1) rfl (by kernel_rfl) (by kernel_rfl) (by kernel_rfl) (fun _ _ _ h => h) (Or.inl ⟨by rfl, ?ya1⟩) hS ?_
    case ya1 =>
      intro w hSw
      go_simp; all_goals (with_reducible rfl)
    simp only [Act.put, List.setIfInBounds_toArray, List.set_cons_zero, List.set_cons_succ]
    refine wpAnyH_take (i := 1) (oi := { dst := some 66, op := Op.move (Operand.tmp 13), type := 3, pos := "law.go:64", after := #[], guard := none }) (v := ?va2) rfl (by kernel_rfl) (by kernel_rfl) (by kernel_rfl) (fun _ _ _ h => h) (Or.inl ⟨by rfl, ?ya2⟩) hS ?_
    case ya2 =>
      intro w hSw
      go_simp; all_goals (with_reducible rfl)
    simp only [Act.put, List.setIfInBounds_toArray, List.set_cons_zero, List.set_cons_succ]
    refine wpAnyH_take (i := 2) (oi := { dst := some 67, op := Op.binOp BinOp.quo 3 (Operand.tmp 66) (Operand.const (Value.int IntKind.i64 8)) 3, type := 3, pos := "law.go:64", after := #[{ on := 1, ground := Ground.data }], guard := none }) (v := ?va3) rfl (by kernel_rfl) (by kernel_rfl) (by kernel_rfl) (fun _ _ _ h => h) (Or.inl ⟨by rfl, ?ya3⟩) hS ?_
    case ya3 =>
      intro w hSw
      go_simp; all_goals (with_reducible rfl)
    simp only [Act.put, List.setIfInBounds_toArray, List.set_cons_zero, List.set_cons_succ]
    rw [HQ.out]
    refine wpAnyH_take (i := 3) (oi := { dst := some 68, op := Op.move (Operand.tmp 7), type := 22, pos := "law.go:64", after := #[], guard := none }) (v := ?va4) rfl (by kernel_rfl) (by kernel_rfl) (by kernel_rfl) (fun _ _ _ h => h) (Or.inl ⟨by rfl, ?ya4⟩) hS ?_
    case ya4 =>
      intro w hSw
      go_simp; all_goals (with_reducible rfl)
    simp only [Act.put, List.setIfInBounds_toArray, List.set_cons_zero, List.set_cons_succ]
    refine wpAnyH_take (i := 4) (oi := { dst := some 69, op := Op.move (Operand.tmp 13), type := 3, pos := "law.go:64", after := #[], guard := none }) (v := ?va5) rfl (by kernel_rfl) (by kernel_rfl) (by kernel_rfl) (fun _ _ _ h => h) (Or.inl ⟨by rfl, ?ya5⟩) hS ?_
    case ya5 =>
      intro w hSw
      go_simp; all_goals (with_reducible rfl)
    simp only [Act.put, List.setIfInBounds_toArray, List.set_cons_zero, List.set_cons_succ]
    refine wpAnyH_take (i := 5) (oi := { dst := some 70, op := Op.binOp BinOp.quo 3 (Operand.tmp 69) (Operand.const (Value.int IntKind.i64 8)) 3, type := 3, pos := "law.go:64", after := #[{ on := 4, ground := Ground.data }], guard := none }) (v := ?va6) rfl (by kernel_rfl) (by kernel_rfl) (by kernel_rfl) (fun _ _ _ h => h) (Or.inl ⟨by rfl, ?ya6⟩) hS ?_
    case ya6 =>
      intro w hSw
      go_simp; all_goals (with_reducible rfl)
    simp only [Act.put, List.setIfInBounds_toArray, List.set_cons_zero, List.set_cons_succ]
    rw [HQ.out]
    refine wpAnyH_take (i := 6) (oi := { dst := some 71, op := Op.indexAddr 22 (Operand.tmp 68) (Operand.tmp 70), type := 0, pos := "law.go:64", after := #[{ on := 3, ground := Ground.data }, { on := 5, ground := Ground.data }], guard := none }) (v := ?va7) rfl (by kernel_rfl) (by kernel_rfl) (by kernel_rfl) (fun _ _ _ h => h) (Or.inl ⟨by rfl, ?ya7⟩) hS ?_
    case ya7 =>
      intro w hSw
      go_simp; all_goals (with_reducible rfl)
    simp only [Act.put, List.setIfInBounds_toArray, List.set_cons_zero, List.set_cons_succ]
    refine wpAnyH_take (i := 8) (oi := { dst := some 73, op := Op.move (Operand.tmp 13), type := 3, pos := "law.go:64", after := #[], guard := none }) (v := ?va8) rfl (by kernel_rfl) (by kernel_rfl) (by kernel_rfl) (fun _ _ _ h => h) (Or.inl ⟨by rfl, ?ya8⟩) hS ?_
    case ya8 =>
      intro w hSw
      go_simp; all_goals (with_reducible rfl)
    simp only [Act.put, List.setIfInBounds_toArray, List.set_cons_zero, List.set_cons_succ]
    refine wpAnyH_take (i := 9) (oi := { dst := some 74, op := Op.binOp BinOp.rem 3 (Operand.tmp 73) (Operand.const (Value.int IntKind.i64 8)) 3, type := 3, pos := "law.go:64", after := #[{ on := 8, ground := Ground.data }], guard := none }) (v := ?va9) rfl (by kernel_rfl) (by kernel_rfl) (by kernel_rfl) (fun _ _ _ h => h) (Or.inl ⟨by rfl, ?ya9⟩) hS ?_
    case ya9 =>
      intro w hSw
      go_simp; all_goals (with_reducible rfl)
    simp only [Act.put, List.setIfInBounds_toArray, List.set_cons_zero, List.set_cons_succ]
    rw [HM.out]
    refine wpAnyH_take (i := 10) (oi := { dst := some 75, op := Op.binOp BinOp.shl 5 (Operand.const (Value.int IntKind.u8 1)) (Operand.tmp 74) 3, type := 5, pos := "law.go:64", after := #[{ on := 9, ground := Ground.data }], guard := none }) (v := ?va10) rfl (by kernel_rfl) (by kernel_rfl) (by kernel_rfl) (fun _ _ _ h => h) (Or.inl ⟨by rfl, ?ya10⟩) hS ?_
    case ya10 =>
      intro w hSw
      go_simp; all_goals (with_reducible rfl)
    simp only [Act.put, List.setIfInBounds_toArray, List.set_cons_zero, List.set_cons_succ]
    refine wpAnyH_ready (rs := [7]) (by kernel_rfl) (by simp) ?_
    refine (AllReadyH.cons (o := { dst := some 72, op := Op.load 5 (Operand.tmp 71), type := 5, pos := "law.go:64", after := #[{ on := 6, ground := Ground.data }], guard := none }) rfl (fun K hK => ?_) AllReadyH.nil)
    go_simp
    refine hK.out _ _ trivial (fun _ => ?_)
    clear hK K
    refine wpAnyH_take (i := 11) (oi := { dst := some 76, op := Op.binOp BinOp.xor 5 (Operand.tmp 72) (Operand.tmp 75) 5, type := 5, pos := "law.go:64", after := #[{ on := 7, ground := Ground.data }, { on := 10, ground := Ground.data }], guard := none }) (v := ?va11) rfl (by kernel_rfl) (by kernel_rfl) (by kernel_rfl) (fun _ _ _ h => h) (Or.inl ⟨by rfl, ?ya11⟩) trivial ?_
    case ya11 =>
      intro w hSw
      go_simp; all_goals (with_reducible rfl)
    simp only [Act.put, List.setIfInBounds_toArray, List.set_cons_zero, List.set_cons_succ]
    refine wpAnyH_take (i := 12) (oi := { dst := some 77, op := Op.indexAddr 22 (Operand.tmp 65) (Operand.tmp 67), type := 0, pos := "law.go:64", after := #[{ on := 0, ground := Ground.data }, { on := 2, ground := Ground.data }, { on := 0, ground := Ground.phase }, { on := 1, ground := Ground.phase }, { on := 2, ground := Ground.phase }, { on := 3, ground := Ground.phase }, { on := 4, ground := Ground.phase }, { on := 5, ground := Ground.phase }, { on := 6, ground := Ground.phase }, { on := 7, ground := Ground.phase }, { on := 8, ground := Ground.phase }, { on := 9, ground := Ground.phase }, { on := 10, ground := Ground.phase }, { on := 11, ground := Ground.phase }], guard := none }) (v := ?va12) rfl (by kernel_rfl) (by kernel_rfl) (by kernel_rfl) (fun _ _ _ h => h) (Or.inl ⟨by rfl, ?ya12⟩) trivial ?_
    case ya12 =>
      intro w hSw
      go_simp; all_goals (with_reducible rfl)
    simp only [Act.put, List.setIfInBounds_toArray, List.set_cons_zero, List.set_cons_succ]
    refine wpAnyH_ready (rs := [13]) (by kernel_rfl) (by simp) ?_
    refine (AllReadyH.cons (o := { dst := none, op := Op.store 5 (Operand.tmp 77) (Operand.tmp 76), type := 0, pos := "law.go:64", after := #[{ on := 12, ground := Ground.data }, { on := 11, ground := Ground.data }, { on := 0, ground := Ground.phase }, { on := 1, ground := Ground.phase }, { on := 2, ground := Ground.phase }, { on := 3, ground := Ground.phase }, { on := 4, ground := Ground.phase }, { on := 5, ground := Ground.phase }, { on := 6, ground := Ground.phase }, { on := 7, ground := Ground.phase }, { on := 8, ground := Ground.phase }, { on := 9, ground := Ground.phase }, { on := 10, ground := Ground.phase }, { on := 11, ground := Ground.phase }], guard := none }) rfl (fun K hK => ?_) AllReadyH.nil)
    go_simp
    refine hK.out _ _ trivial (fun _ => ?_)
    clear hK K
    refine wpAnyH_done (by kernel_rfl) ?_ _
    rw [HV.out]
    obtain ⟨w4, hw4⟩ : ∃ w4 : World, (w3.setCell ⟨gx, q, none⟩ (.int .u8 (v.toNat : Nat))).drew = w4 := ⟨_, rfl⟩
    rw [hw4] at HX g4 hgx5
    rw [hw4]
    clear hw4 k1 z0 HV
    have HN := Lib.hid (HR2.out gx capx w4 hcx hmx (HT.out.below g4) (HX.out.bytes hgx5))
    go_wp2_with fail
    refine HN.out.mono ?_
    rintro e w5 ⟨a5, h5, hh5, rfl, hb5⟩
    have g5 := g4.trans (hb5.mono g4.size)
    have HK := Lib.hid (fl_knows w5 (HT.out.below g5))
    clear HN hb5 g3 g4 hgx3 hgx5
    go_wp2_with fail
    refine HK.out.mono ?_
    rintro e w6 ⟨rfl, hb6⟩
    go_wp2_with fail
    go_ret
    exact ⟨rfl, g5.trans (hb6.mono g5.size)⟩
  | true =>
    obtain ⟨h4, hmax, hr4⟩ := sizeOk_cases s hs
    obtain ⟨n, hn⟩ : ∃ n : Nat, s = 4 * ((n : Int) + 1) := ⟨(s / 4 - 1).toNat, by omega⟩
    have hn32 : n < 4294967296 := by omega
    have H3 := Lib.hid (fun w' (ht : Tabs w') => foot_yes b n s hn hn32 w' ht hf)
    have HLF := Lib.hid (footL_length b n)
    have HQ4 := Lib.hid (show ∀ (g : Nat) (cap : Nat) (w' : World), 12 ≤ cap → cap ≤ 9223372036854775807 → Tabs w' → Bytes w' (some ⟨g, 0, none⟩) (footL b n) → Calls Tryd.prog 18 #[.slice (some ⟨g, 0, none⟩) 12 cap] w' fun e w'' => FootOk (b.toNat : Nat) s e w' w'' from fun g cap w' h1 h2 h3 h4 => by
      have := readFoot_any _ (footL b n) cap w' h3 h4 (by rw [footL_length]; exact h1) h2 (by rw [footL_length]; omega)
      rw [footL_length, foot_back b n hn32 hf] at this
      rw [show s = 4 * (n : Int) + 4 by omega]
      exact this)
    have HQ5 := Lib.hid (show ∀ (g : Nat) (cap : Nat) (w' : World), 12 ≤ cap → cap ≤ 9223372036854775807 → Tabs w' → Bytes w' (some ⟨g, 0, none⟩) (turn (footL b n) i) → Calls Tryd.prog 18 #[.slice (some ⟨g, 0, none⟩) 12 cap] w' fun e w'' => FootNo e w' w'' from fun g cap w' h1 h2 h3 h4 => by
      have hl : (turn (footL b n) i).length = 12 := by rw [turn_length, footL_length]
      have := readFoot_any _ (turn (footL b n) i) cap w' h3 h4 (by rw [hl]; exact h1) h2 (by rw [hl]; omega)
      rw [hl] at this
      exact this.mono fun e w' h => ⟨_, _, _, foot_turned b n i (by omega), h⟩)
    clear hf hs h4 hmax hr4 hn hn32
    go_enter Tryd.func5, Tryd.ntmps5
    go_wp2_with fail
    refine H2.out.mono ?_
    rintro e w1 ⟨gx, capx, rfl, hcx, hmx, hgx0, hgx, hFx, hb1⟩
    rw [HLH.out]
    rw [HLH.out] at hcx
    have HN3 := Lib.hid (H3.out w1 (HT.out.below hb1))
    go_wp2_with fail
    refine HN3.out.mono ?_
    rintro e w2 ⟨gy, capy, rfl, hcy, hmy, hgy1, hgy, hFy, hb2⟩
    rw [HLF.out]
    rw [HLF.out] at hcy
    have g2 := hb1.trans (hb2.mono hb1.size)
    have hF2 := hFx.below hgx hb2
    have hgx2 : gx < w2.heap.size := Nat.lt_of_lt_of_le hgx hb2.size
    have hne : gy ≠ gx := fun e => by omega
    have hgy0 : w.heap.size ≤ gy := Nat.le_trans hb1.size hgy1
    have HN := Lib.hid (HR.out gx capx w2 hcx hmx (HT.out.below g2) (hF2.bytes hgx2))
    clear hb1 hb2 hFx hgx hgy1 HN3
    go_wp2_with fail
    refine HN.out.mono ?_
    rintro e w3 ⟨rfl, hb3⟩
    have g3 := g2.trans (hb3.mono g2.size)
    have HF3 := Lib.hid (hF2.below hgx2 hb3)
    have HY3 := Lib.hid (hFy.below hgy hb3)
    have hgx3 : gx < w3.heap.size := Nat.lt_of_lt_of_le hgx2 hb3.size
    have hgy3 : gy < w3.heap.size := Nat.lt_of_lt_of_le hgy hb3.size
    clear g2 hF2 hgx2 HN hb3 hFy hgy
    have HNE := Lib.hid hne
    clear hne
    go_wp2_with fail
    rw [HI.out]
    have hl12 : i / 8 < (headL b).length := by rw [headL_length]; omega
    obtain ⟨k0, z0⟩ := HF3.out (i / 8) hl12
    have hge : (headL b)[i / 8] = (headL b).getD (i / 8) 0 := by simp [List.getD, hl12]
    rw [hge] at k0
    have HX : Hid (FreshAt (w3.setCell ⟨gx, i / 8, none⟩ (.int .u8 (((headL b).getD (i / 8) 0 ^^^ mask i).toNat : Nat))).drew gx (turn (headL b) i)) := Lib.hid (HF3.out.turn i)
    generalize hxx : (headL b).getD (i / 8) 0 = x at k0 HX
    rw [HQ2.out] at k0 z0 HX
    obtain ⟨v, hv⟩ : ∃ v : UInt8, x ^^^ mask i = v := ⟨_, rfl⟩
    rw [hv] at HX
    have k1 : w3.cell? ⟨gx, q, none⟩ = some (.int .u8 (x.toNat : Nat)) := k0
    have HV : Hid (bits BinOp.xor IntKind.u8 (x.toNat : Int) (IntKind.u8.wrap (2 ^ m)) = (v.toNat : Int)) := Lib.hid (by rw [xor_mask x i m HM2.out, hv])
    have g4 : Below w.heap.size w (w3.setCell ⟨gx, q, none⟩ (.int .u8 (v.toNat : Nat))).drew := (g3.setCell hgx0 _).drew
    have hgx5 : gx < (w3.setCell ⟨gx, q, none⟩ (.int .u8 (v.toNat : Nat))).drew.heap.size := by show _ < (World.setCell _ _ _).heap.size; rw [Go.Deep.nblk_setCell]; exact hgx3
    have HY4 := Lib.hid (HY3.out.other (b := gx) (o := q) HNE.out (.int .u8 (v.toNat : Nat)))
    have hgy5 : gy < (w3.setCell ⟨gx, q, none⟩ (.int .u8 (v.toNat : Nat))).drew.heap.size := by show _ < (World.setCell _ _ _).heap.size; rw [Go.Deep.nblk_setCell]; exact hgy3
    clear k0 hl12 hge hxx hv
    refine wp_region_held_drew (S := fun _ => True) (by kernel_rfl) trivial (fun hS => ?_)
    refine wpAnyH_take (i := 0) (oi := { dst := some 65, op := Op.move (Operand.tmp 7), type := 22, pos := "law.go:64", after := #[], guard := none }) (v := ?vb13) rfl (by kernel_rfl) (by kernel_rfl) (by kernel_rfl) (fun _ _ _ h => h) (Or.inl ⟨by rfl, ?yb13⟩) hS ?_
    case yb13 =>
      intro w hSw
      go_simp; all_goals (with_reducible rfl)
    simp only [Act.put, List.setIfInBounds_toArray, List.set_cons_zero, List.set_cons_succ]
    refine wpAnyH_take (i := 1) (oi := { dst := some 66, op := Op.move (Operand.tmp 13), type := 3, pos := "law.go:64", after := #[], guard := none }) (v := ?vb14) rfl (by kernel_rfl) (by kernel_rfl) (by kernel_rfl) (fun _ _ _ h => h) (Or.inl ⟨by rfl, ?yb14⟩) hS ?_
    case yb14 =>
      intro w hSw
      go_simp; all_goals (with_reducible rfl)
    simp only [Act.put, List.setIfInBounds_toArray, List.set_cons_zero, List.set_cons_succ]
    refine wpAnyH_take (i := 2) (oi := { dst := some 67, op := Op.binOp BinOp.quo 3 (Operand.tmp 66) (Operand.const (Value.int IntKind.i64 8)) 3, type := 3, pos := "law.go:64", after := #[{ on := 1, ground := Ground.data }], guard := none }) (v := ?vb15) rfl (by kernel_rfl) (by kernel_rfl) (by kernel_rfl) (fun _ _ _ h => h) (Or.inl ⟨by rfl, ?yb15⟩) hS ?_
    case yb15 =>
      intro w hSw
      go_simp; all_goals (with_reducible rfl)
    simp only [Act.put, List.setIfInBounds_toArray, List.set_cons_zero, List.set_cons_succ]
    rw [HQ.out]
    refine wpAnyH_take (i := 3) (oi := { dst := some 68, op := Op.move (Operand.tmp 7), type := 22, pos := "law.go:64", after := #[], guard := none }) (v := ?vb16) rfl (by kernel_rfl) (by kernel_rfl) (by kernel_rfl) (fun _ _ _ h => h) (Or.inl ⟨by rfl, ?yb16⟩) hS ?_
    case yb16 =>
      intro w hSw
      go_simp; all_goals (with_reducible rfl)
    simp only [Act.put, List.setIfInBounds_toArray, List.set_cons_zero, List.set_cons_succ]
    refine wpAnyH_take (i := 4) (oi := { dst := some 69, op := Op.move (Operand.tmp 13), type := 3, pos := "law.go:64", after := #[], guard := none }) (v := ?vb17) rfl (by kernel_rfl) (by kernel_rfl) (by kernel_rfl) (fun _ _ _ h => h) (Or.inl ⟨by rfl, ?yb17⟩) hS ?_
    case yb17 =>
      intro w hSw
      go_simp; all_goals (with_reducible rfl)
    simp only [Act.put, List.setIfInBounds_toArray, List.set_cons_zero, List.set_cons_succ]
    refine wpAnyH_take (i := 5) (oi := { dst := some 70, op := Op.binOp BinOp.quo 3 (Operand.tmp 69) (Operand.const (Value.int IntKind.i64 8)) 3, type := 3, pos := "law.go:64", after := #[{ on := 4, ground := Ground.data }], guard := none }) (v := ?vb18) rfl (by kernel_rfl) (by kernel_rfl) (by kernel_rfl) (fun _ _ _ h => h) (Or.inl ⟨by rfl, ?yb18⟩) hS ?_
    case yb18 =>
      intro w hSw
      go_simp; all_goals (with_reducible rfl)
    simp only [Act.put, List.setIfInBounds_toArray, List.set_cons_zero, List.set_cons_succ]
    rw [HQ.out]
    refine wpAnyH_take (i := 6) (oi := { dst := some 71, op := Op.indexAddr 22 (Operand.tmp 68) (Operand.tmp 70), type := 0, pos := "law.go:64", after := #[{ on := 3, ground := Ground.data }, { on := 5, ground := Ground.data }], guard := none }) (v := ?vb19) rfl (by kernel_rfl) (by kernel_rfl) (by kernel_rfl) (fun _ _ _ h => h) (Or.inl ⟨by rfl, ?yb19⟩) hS ?_
    case yb19 =>
      intro w hSw
      go_simp; all_goals (with_reducible rfl)
    simp only [Act.put, List.setIfInBounds_toArray, List.set_cons_zero, List.set_cons_succ]
    refine wpAnyH_take (i := 8) (oi := { dst := some 73, op := Op.move (Operand.tmp 13), type := 3, pos := "law.go:64", after := #[], guard := none }) (v := ?vb20) rfl (by kernel_rfl) (by kernel_rfl) (by kernel_rfl) (fun _ _ _ h => h) (Or.inl ⟨by rfl, ?yb20⟩) hS ?_
    case yb20 =>
      intro w hSw
      go_simp; all_goals (with_reducible rfl)
    simp only [Act.put, List.setIfInBounds_toArray, List.set_cons_zero, List.set_cons_succ]
    refine wpAnyH_take (i := 9) (oi := { dst := some 74, op := Op.binOp BinOp.rem 3 (Operand.tmp 73) (Operand.const (Value.int IntKind.i64 8)) 3, type := 3, pos := "law.go:64", after := #[{ on := 8, ground := Ground.data }], guard := none }) (v := ?vb21) rfl (by kernel_rfl) (by kernel_rfl) (by kernel_rfl) (fun _ _ _ h => h) (Or.inl ⟨by rfl, ?yb21⟩) hS ?_
    case yb21 =>
      intro w hSw
      go_simp; all_goals (with_reducible rfl)
    simp only [Act.put, List.setIfInBounds_toArray, List.set_cons_zero, List.set_cons_succ]
    rw [HM.out]
    refine wpAnyH_take (i := 10) (oi := { dst := some 75, op := Op.binOp BinOp.shl 5 (Operand.const (Value.int IntKind.u8 1)) (Operand.tmp 74) 3, type := 5, pos := "law.go:64", after := #[{ on := 9, ground := Ground.data }], guard := none }) (v := ?vb22) rfl (by kernel_rfl) (by kernel_rfl) (by kernel_rfl) (fun _ _ _ h => h) (Or.inl ⟨by rfl, ?yb22⟩) hS ?_
    case yb22 =>
      intro w hSw
      go_simp; all_goals (with_reducible rfl)
    simp only [Act.put, List.setIfInBounds_toArray, List.set_cons_zero, List.set_cons_succ]
    refine wpAnyH_ready (rs := [7]) (by kernel_rfl) (by simp) ?_
    refine (AllReadyH.cons (o := { dst := some 72, op := Op.load 5 (Operand.tmp 71), type := 5, pos := "law.go:64", after := #[{ on := 6, ground := Ground.data }], guard := none }) rfl (fun K hK => ?_) AllReadyH.nil)
    go_simp
    refine hK.out _ _ trivial (fun _ => ?_)
    clear hK K
    refine wpAnyH_take (i := 11) (oi := { dst := some 76, op := Op.binOp BinOp.xor 5 (Operand.tmp 72) (Operand.tmp 75) 5, type := 5, pos := "law.go:64", after := #[{ on := 7, ground := Ground.data }, { on := 10, ground := Ground.data }], guard := none }) (v := ?vb23) rfl (by kernel_rfl) (by kernel_rfl) (by kernel_rfl) (fun _ _ _ h => h) (Or.inl ⟨by rfl, ?yb23⟩) trivial ?_
    case yb23 =>
      intro w hSw
      go_simp; all_goals (with_reducible rfl)
    simp only [Act.put, List.setIfInBounds_toArray, List.set_cons_zero, List.set_cons_succ]
    refine wpAnyH_take (i := 12) (oi := { dst := some 77, op := Op.indexAddr 22 (Operand.tmp 65) (Operand.tmp 67), type := 0, pos := "law.go:64", after := #[{ on := 0, ground := Ground.data }, { on := 2, ground := Ground.data }, { on := 0, ground := Ground.phase }, { on := 1, ground := Ground.phase }, { on := 2, ground := Ground.phase }, { on := 3, ground := Ground.phase }, { on := 4, ground := Ground.phase }, { on := 5, ground := Ground.phase }, { on := 6, ground := Ground.phase }, { on := 7, ground := Ground.phase }, { on := 8, ground := Ground.phase }, { on := 9, ground := Ground.phase }, { on := 10, ground := Ground.phase }, { on := 11, ground := Ground.phase }], guard := none }) (v := ?vb24) rfl (by kernel_rfl) (by kernel_rfl) (by kernel_rfl) (fun _ _ _ h => h) (Or.inl ⟨by rfl, ?yb24⟩) trivial ?_
    case yb24 =>
      intro w hSw
      go_simp; all_goals (with_reducible rfl)
    simp only [Act.put, List.setIfInBounds_toArray, List.set_cons_zero, List.set_cons_succ]
    refine wpAnyH_ready (rs := [13]) (by kernel_rfl) (by simp) ?_
    refine (AllReadyH.cons (o := { dst := none, op := Op.store 5 (Operand.tmp 77) (Operand.tmp 76), type := 0, pos := "law.go:64", after := #[{ on := 12, ground := Ground.data }, { on := 11, ground := Ground.data }, { on := 0, ground := Ground.phase }, { on := 1, ground := Ground.phase }, { on := 2, ground := Ground.phase }, { on := 3, ground := Ground.phase }, { on := 4, ground := Ground.phase }, { on := 5, ground := Ground.phase }, { on := 6, ground := Ground.phase }, { on := 7, ground := Ground.phase }, { on := 8, ground := Ground.phase }, { on := 9, ground := Ground.phase }, { on := 10, ground := Ground.phase }, { on := 11, ground := Ground.phase }], guard := none }) rfl (fun K hK => ?_) AllReadyH.nil)
    go_simp
    refine hK.out _ _ trivial (fun _ => ?_)
    clear hK K
    refine wpAnyH_done (by kernel_rfl) ?_ _
    rw [HV.out]
    obtain ⟨w4, hw4⟩ : ∃ w4 : World, (w3.setCell ⟨gx, q, none⟩ (.int .u8 (v.toNat : Nat))).drew = w4 := ⟨_, rfl⟩
    rw [hw4] at HX g4 hgx5 HY4 hgy5
    rw [hw4]
    clear hw4 k1 z0 HV
    have HN := Lib.hid (HR2.out gx capx w4 hcx hmx (HT.out.below g4) (HX.out.bytes hgx5))
    go_wp2_with fail
    refine HN.out.mono ?_
    rintro e w5 ⟨a5, h5, hh5, rfl, hb5⟩
    have g5 := g4.trans (hb5.mono g4.size)
    have HY5 := Lib.hid (HY4.out.below hgy5 hb5)
    have hgy6 : gy < w5.heap.size := Nat.lt_of_lt_of_le hgy5 hb5.size
    have HN5 := Lib.hid (HQ4.out gy capy w5 hcy hmy (HT.out.below g5) (HY5.out.bytes hgy6))
    clear HN hb5 g3 g4 hgx3 hgx5 hgy3 hgy5
    go_wp2_with fail
    refine HN5.out.mono ?_
    rintro e w6 ⟨rfl, hb6⟩
    have g6 := g5.trans (hb6.mono g5.size)
    have HY6 := Lib.hid (HY5.out.below hgy6 hb6)
    have hgy3 : gy < w6.heap.size := Nat.lt_of_lt_of_le hgy6 hb6.size
    clear HN5 hb6 g5 hgy6
    go_wp2_with fail
    have hl12 : i / 8 < (footL b n).length := by rw [footL_length]; omega
    obtain ⟨k0, z0⟩ := HY6.out (i / 8) hl12
    have hge : (footL b n)[i / 8] = (footL b n).getD (i / 8) 0 := by simp [List.getD, hl12]
    rw [hge] at k0
    have HZ : Hid (FreshAt (w6.setCell ⟨gy, i / 8, none⟩ (.int .u8 (((footL b n).getD (i / 8) 0 ^^^ mask i).toNat : Nat))).drew gy (turn (footL b n) i)) := Lib.hid (HY6.out.turn i)
    generalize hxx : (footL b n).getD (i / 8) 0 = x at k0 HZ
    rw [HQ2.out] at k0 z0 HZ
    obtain ⟨v, hv⟩ : ∃ v : UInt8, x ^^^ mask i = v := ⟨_, rfl⟩
    rw [hv] at HZ
    have k1 : w6.cell? ⟨gy, q, none⟩ = some (.int .u8 (x.toNat : Nat)) := k0
    have HV : Hid (bits BinOp.xor IntKind.u8 (x.toNat : Int) (IntKind.u8.wrap (2 ^ m)) = (v.toNat : Int)) := Lib.hid (by rw [xor_mask x i m HM2.out, hv])
    have g7 : Below w.heap.size w (w6.setCell ⟨gy, q, none⟩ (.int .u8 (v.toNat : Nat))).drew := (g6.setCell hgy0 _).drew
    have hgy5 : gy < (w6.setCell ⟨gy, q, none⟩ (.int .u8 (v.toNat : Nat))).drew.heap.size := by show _ < (World.setCell _ _ _).heap.size; rw [Go.Deep.nblk_setCell]; exact hgy3
    clear k0 hl12 hge hxx hv
    refine wp_region_held_drew (S := fun _ => True) (by kernel_rfl) trivial (fun hS => ?_)
    refine wpAnyH_take (i := 0) (oi := { dst := some 120, op := Op.move (Operand.tmp 9), type := 22, pos := "law.go:76", after := #[], guard := none }) (v := ?vc25) rfl (by kernel_rfl) (by kernel_rfl) (by kernel_rfl) (fun _ _ _ h => h) (Or.inl ⟨by rfl, ?yc25⟩) hS ?_
    case yc25 =>
      intro w hSw
      go_simp; all_goals (with_reducible rfl)
    simp only [Act.put, List.setIfInBounds_toArray, List.set_cons_zero, List.set_cons_succ]
    refine wpAnyH_take (i := 1) (oi := { dst := some 121, op := Op.move (Operand.tmp 13), type := 3, pos := "law.go:76", after := #[], guard := none }) (v := ?vc26) rfl (by kernel_rfl) (by kernel_rfl) (by kernel_rfl) (fun _ _ _ h => h) (Or.inl ⟨by rfl, ?yc26⟩) hS ?_
    case yc26 =>
      intro w hSw
      go_simp; all_goals (with_reducible rfl)
    simp only [Act.put, List.setIfInBounds_toArray, List.set_cons_zero, List.set_cons_succ]
    refine wpAnyH_take (i := 2) (oi := { dst := some 122, op := Op.binOp BinOp.quo 3 (Operand.tmp 121) (Operand.const (Value.int IntKind.i64 8)) 3, type := 3, pos := "law.go:76", after := #[{ on := 1, ground := Ground.data }], guard := none }) (v := ?vc27) rfl (by kernel_rfl) (by kernel_rfl) (by kernel_rfl) (fun _ _ _ h => h) (Or.inl ⟨by rfl, ?yc27⟩) hS ?_
    case yc27 =>
      intro w hSw
      go_simp; all_goals (with_reducible rfl)
    simp only [Act.put, List.setIfInBounds_toArray, List.set_cons_zero, List.set_cons_succ]
    rw [HQ.out]
    refine wpAnyH_take (i := 3) (oi := { dst := some 123, op := Op.move (Operand.tmp 9), type := 22, pos := "law.go:76", after := #[], guard := none }) (v := ?vc28) rfl (by kernel_rfl) (by kernel_rfl) (by kernel_rfl) (fun _ _ _ h => h) (Or.inl ⟨by rfl, ?yc28⟩) hS ?_
    case yc28 =>
      intro w hSw
      go_simp; all_goals (with_reducible rfl)
    simp only [Act.put, List.setIfInBounds_toArray, List.set_cons_zero, List.set_cons_succ]
    refine wpAnyH_take (i := 4) (oi := { dst := some 124, op := Op.move (Operand.tmp 13), type := 3, pos := "law.go:76", after := #[], guard := none }) (v := ?vc29) rfl (by kernel_rfl) (by kernel_rfl) (by kernel_rfl) (fun _ _ _ h => h) (Or.inl ⟨by rfl, ?yc29⟩) hS ?_
    case yc29 =>
      intro w hSw
      go_simp; all_goals (with_reducible rfl)
    simp only [Act.put, List.setIfInBounds_toArray, List.set_cons_zero, List.set_cons_succ]
    refine wpAnyH_take (i := 5) (oi := { dst := some 125, op := Op.binOp BinOp.quo 3 (Operand.tmp 124) (Operand.const (Value.int IntKind.i64 8)) 3, type := 3, pos := "law.go:76", after := #[{ on := 4, ground := Ground.data }], guard := none }) (v := ?vc30) rfl (by kernel_rfl) (by kernel_rfl) (by kernel_rfl) (fun _ _ _ h => h) (Or.inl ⟨by rfl, ?yc30⟩) hS ?_
    case yc30 =>
      intro w hSw
      go_simp; all_goals (with_reducible rfl)
    simp only [Act.put, List.setIfInBounds_toArray, List.set_cons_zero, List.set_cons_succ]
    rw [HQ.out]
    refine wpAnyH_take (i := 6) (oi := { dst := some 126, op := Op.indexAddr 22 (Operand.tmp 123) (Operand.tmp 125), type := 0, pos := "law.go:76", after := #[{ on := 3, ground := Ground.data }, { on := 5, ground := Ground.data }], guard := none }) (v := ?vc31) rfl (by kernel_rfl) (by kernel_rfl) (by kernel_rfl) (fun _ _ _ h => h) (Or.inl ⟨by rfl, ?yc31⟩) hS ?_
    case yc31 =>
      intro w hSw
      go_simp; all_goals (with_reducible rfl)
    simp only [Act.put, List.setIfInBounds_toArray, List.set_cons_zero, List.set_cons_succ]
    refine wpAnyH_take (i := 8) (oi := { dst := some 128, op := Op.move (Operand.tmp 13), type := 3, pos := "law.go:76", after := #[], guard := none }) (v := ?vc32) rfl (by kernel_rfl) (by kernel_rfl) (by kernel_rfl) (fun _ _ _ h => h) (Or.inl ⟨by rfl, ?yc32⟩) hS ?_
    case yc32 =>
      intro w hSw
      go_simp; all_goals (with_reducible rfl)
    simp only [Act.put, List.setIfInBounds_toArray, List.set_cons_zero, List.set_cons_succ]
    refine wpAnyH_take (i := 9) (oi := { dst := some 129, op := Op.binOp BinOp.rem 3 (Operand.tmp 128) (Operand.const (Value.int IntKind.i64 8)) 3, type := 3, pos := "law.go:76", after := #[{ on := 8, ground := Ground.data }], guard := none }) (v := ?vc33) rfl (by kernel_rfl) (by kernel_rfl) (by kernel_rfl) (fun _ _ _ h => h) (Or.inl ⟨by rfl, ?yc33⟩) hS ?_
    case yc33 =>
      intro w hSw
      go_simp; all_goals (with_reducible rfl)
    simp only [Act.put, List.setIfInBounds_toArray, List.set_cons_zero, List.set_cons_succ]
    rw [HM.out]
    refine wpAnyH_take (i := 10) (oi := { dst := some 130, op := Op.binOp BinOp.shl 5 (Operand.const (Value.int IntKind.u8 1)) (Operand.tmp 129) 3, type := 5, pos := "law.go:76", after := #[{ on := 9, ground := Ground.data }], guard := none }) (v := ?vc34) rfl (by kernel_rfl) (by kernel_rfl) (by kernel_rfl) (fun _ _ _ h => h) (Or.inl ⟨by rfl, ?yc34⟩) hS ?_
    case yc34 =>
      intro w hSw
      go_simp; all_goals (with_reducible rfl)
    simp only [Act.put, List.setIfInBounds_toArray, List.set_cons_zero, List.set_cons_succ]
    refine wpAnyH_ready (rs := [7]) (by kernel_rfl) (by simp) ?_
    refine (AllReadyH.cons (o := { dst := some 127, op := Op.load 5 (Operand.tmp 126), type := 5, pos := "law.go:76", after := #[{ on := 6, ground := Ground.data }], guard := none }) rfl (fun K hK => ?_) AllReadyH.nil)
    go_simp
    refine hK.out _ _ trivial (fun _ => ?_)
    clear hK K
    refine wpAnyH_take (i := 11) (oi := { dst := some 131, op := Op.binOp BinOp.xor 5 (Operand.tmp 127) (Operand.tmp 130) 5, type := 5, pos := "law.go:76", after := #[{ on := 7, ground := Ground.data }, { on := 10, ground := Ground.data }], guard := none }) (v := ?vc35) rfl (by kernel_rfl) (by kernel_rfl) (by kernel_rfl) (fun _ _ _ h => h) (Or.inl ⟨by rfl, ?yc35⟩) trivial ?_
    case yc35 =>
      intro w hSw
      go_simp; all_goals (with_reducible rfl)
    simp only [Act.put, List.setIfInBounds_toArray, List.set_cons_zero, List.set_cons_succ]
    refine wpAnyH_take (i := 12) (oi := { dst := some 132, op := Op.indexAddr 22 (Operand.tmp 120) (Operand.tmp 122), type := 0, pos := "law.go:76", after := #[{ on := 0, ground := Ground.data }, { on := 2, ground := Ground.data }, { on := 0, ground := Ground.phase }, { on := 1, ground := Ground.phase }, { on := 2, ground := Ground.phase }, { on := 3, ground := Ground.phase }, { on := 4, ground := Ground.phase }, { on := 5, ground := Ground.phase }, { on := 6, ground := Ground.phase }, { on := 7, ground := Ground.phase }, { on := 8, ground := Ground.phase }, { on := 9, ground := Ground.phase }, { on := 10, ground := Ground.phase }, { on := 11, ground := Ground.phase }], guard := none }) (v := ?vc36) rfl (by kernel_rfl) (by kernel_rfl) (by kernel_rfl) (fun _ _ _ h => h) (Or.inl ⟨by rfl, ?yc36⟩) trivial ?_
    case yc36 =>
      intro w hSw
      go_simp; all_goals (with_reducible rfl)
    simp only [Act.put, List.setIfInBounds_toArray, List.set_cons_zero, List.set_cons_succ]
    refine wpAnyH_ready (rs := [13]) (by kernel_rfl) (by simp) ?_
    refine (AllReadyH.cons (o := { dst := none, op := Op.store 5 (Operand.tmp 132) (Operand.tmp 131), type := 0, pos := "law.go:76", after := #[{ on := 12, ground := Ground.data }, { on := 11, ground := Ground.data }, { on := 0, ground := Ground.phase }, { on := 1, ground := Ground.phase }, { on := 2, ground := Ground.phase }, { on := 3, ground := Ground.phase }, { on := 4, ground := Ground.phase }, { on := 5, ground := Ground.phase }, { on := 6, ground := Ground.phase }, { on := 7, ground := Ground.phase }, { on := 8, ground := Ground.phase }, { on := 9, ground := Ground.phase }, { on := 10, ground := Ground.phase }, { on := 11, ground := Ground.phase }], guard := none }) rfl (fun K hK => ?_) AllReadyH.nil)
    go_simp
    refine hK.out _ _ trivial (fun _ => ?_)
    clear hK K
    refine wpAnyH_done (by kernel_rfl) ?_ _
    rw [HV.out]
    obtain ⟨w7, hw4⟩ : ∃ w4 : World, (w6.setCell ⟨gy, q, none⟩ (.int .u8 (v.toNat : Nat))).drew = w4 := ⟨_, rfl⟩
    rw [hw4] at HZ g7 hgy5
    rw [hw4]
    clear hw4 k1 z0 HV
    have HN7 := Lib.hid (HQ5.out gy capy w7 hcy hmy (HT.out.below g7) (HZ.out.bytes hgy5))
    go_wp2_with fail
    refine HN7.out.mono ?_
    rintro e w8 ⟨a8, n8, h8, hh8, rfl, hb8⟩
    have g8 := g7.trans (hb8.mono g7.size)
    have HK := Lib.hid (fl_knows w8 (HT.out.below g8))
    have hbn : (h8 != 0) = true := by simpa using hh8
    clear HN7 hb8 g6 g7 hgy3 hgy5
    go_wp2_with fail
    refine HK.out.mono ?_
    rintro e w9 ⟨rfl, hb9⟩
    go_wp2_with fail
    go_ret
    exact ⟨rfl, g8.trans (hb9.mono g8.size)⟩

theorem flback_law (a0 : Int) (a1 : Int) (a2 : Nat) (w : World) (_lo0 : -9223372036854775808 ≤ a0) (_hi0 : a0 ≤ 9223372036854775807) (lo1 : -9223372036854775808 ≤ a1) (hi1 : a1 ≤ 9223372036854775807) (h2 : a2 < 256) (hT : Tabs w) :
    Calls Tryd.prog 5 #[.int .i64 a0, .int .i64 a1, .int .u8 (a2 : Nat)] w (Holds w) := by
  cases hf : fineB a0 with
  | false => exact back_no a0 a1 a2 w lo1 hi1 hT hf
  | true =>
    obtain ⟨b, rfl⟩ := fine_byte a0 hf
    exact back_yes b a1 a2 w lo1 hi1 h2 hT hf
end Go.Proofs.YtibkhajhmncgkaaDoor
