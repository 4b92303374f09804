/- header.valid. -/
import Derived.Test.YtaggkcgeddoogaaDoorHdMem
import Derived.Deep.DeepCutAuto
namespace Go.Proofs.YtaggkcgeddoogaaDoor
open Go.RowKit

def sizesB (p q : Int) : Bool := (decide (p = -1) || decide (1 ≤ p)) && (decide (q = -1) || decide (0 ≤ q))
def dictB (d : Nat) : Bool := decide (dictN (codeN d) = d)
/-- A head. -/
structure HeadM where
  p : Int
  q : Int
  l : List Fil
  d : Nat
def HeadM.ok (h : HeadM) : Prop := -9223372036854775808 ≤ h.p ∧ h.p ≤ 9223372036854775807 ∧ -9223372036854775808 ≤ h.q ∧ h.q ≤ 9223372036854775807 ∧ h.d < 4294967296
def validB (h : HeadM) : Bool := sizesB h.p h.q && mayL h.l && dictB h.d
abbrev headV (h : HeadM) (A : Option Addr) (c : Nat) : Value := .agg #[.int .i64 h.p, .int .i64 h.q, .slice A h.l.length c, .int .u32 (h.d : Nat)]
abbrev headBox (h : HeadM) (A : Option Addr) (c : Nat) : Obj := .cells #[.int .i64 h.p, .int .i64 h.q, .slice A h.l.length c, .int .u32 (h.d : Nat)] 25
theorem headBox_cells (w : World) (h : HeadM) (A : Option Addr) (c : Nat) : (w.alloc (headBox h A c)).cell? ⟨w.heap.size, 0, none⟩ = some (.int .i64 h.p) ∧ (w.alloc (headBox h A c)).cell? ⟨w.heap.size, 1, none⟩ = some (.int .i64 h.q) ∧
    (w.alloc (headBox h A c)).cell? ⟨w.heap.size, 2, none⟩ = some (.slice A h.l.length c) ∧ (w.alloc (headBox h A c)).cell? ⟨w.heap.size, 3, none⟩ = some (.int .u32 (h.d : Nat)) := by
  refine ⟨by simp, by simp, by simp, by simp⟩

set_option maxRecDepth 100000 in
set_option maxHeartbeats 2000000 in
theorem valid_any (h : HeadM) (hok : h.ok) (A : Option Addr) (c : Nat) (w : World) (hF0 : Fils w A h.l) (hl : h.l.length ≤ 20) :
    Calls Tryd.prog 14 #[headV h A c] w fun e w' => e = .returned (.bool (validB h)) ∧ Below w.heap.size w w' := by
  have HV := Lib.hid (show validB h = (sizesB h.p h.q && mayL h.l && dictB h.d) from rfl)
  have hB0 : Below w.heap.size w (w.alloc (headBox h A c)) := (Below.refl _ _).alloc (Nat.le_refl _) _
  have hcs := headBox_cells w h A c
  have hF := hF0.below hB0
  have HM := Lib.hid (fun w' (hf : Fils w' A h.l) => mayL_any A h.l c w' hf hl)
  obtain ⟨p, q, l, d⟩ := h
  obtain ⟨o1, o2, o3, o4, o5⟩ : -9223372036854775808 ≤ p ∧ p ≤ 9223372036854775807 ∧ -9223372036854775808 ≤ q ∧ q ≤ 9223372036854775807 ∧ d < 4294967296 := hok
  have HCO := Lib.hid (fun w' => code_any d o5 w')
  have HDI := Lib.hid (fun w' => dict_small (codeN d) (codeN_le d) w')
  have HDL := dictN_lt (codeN d)
  have HDB := Lib.hid (show dictB d = decide (dictN (codeN d) = d) from rfl)
  simp only [headBox] at hcs hB0 hF
  simp only at HV HM
  generalize validB ⟨p, q, l, d⟩ = R at *
  generalize hBX : Obj.cells #[Value.int .i64 p, .int .i64 q, .slice A l.length c, .int .u32 (d : Nat)] 25 = BX at *
  have HSB := Lib.hid (show sizesB p q = ((decide (p = -1) || decide (1 ≤ p)) && (decide (q = -1) || decide (0 ≤ q))) from rfl)
  have HB0 := Lib.hid hB0
  clear hB0
  generalize sizesB p q = sz at *
  have hsz : w.heap.size < (w.alloc BX).heap.size := by simp
  have HC2 := Lib.hid (fun (w' : World) (hb : Below (w.alloc BX).heap.size (w.alloc BX) w') => (hb.cell (p := ⟨w.heap.size, 2, none⟩) hsz).trans hcs.2.2.1)
  have HC3 := Lib.hid (fun (w' : World) (hb : Below (w.alloc BX).heap.size (w.alloc BX) w') => (hb.cell (p := ⟨w.heap.size, 3, none⟩) hsz).trans hcs.2.2.2)
  obtain ⟨k0, k1, _, _⟩ := hcs
  subst hBX
  go_enter Tryd.func14, Tryd.ntmps14
  go_upto_region 1 with fail
  go_cut [3] from 4 (fun s3 wx => s3 = .bool (decide (p = -1) || decide (1 ≤ p)) ∧ wx = w.alloc (.cells #[.int .i64 p, .int .i64 q, .slice A l.length c, .int .u32 (d : Nat)] 25))
  case first =>
    by_cases hp : p = -1
    · subst hp
      go_wp2_with fail
      go_meet
      exact ⟨rfl, rfl⟩
    · by_cases hp1 : 1 ≤ p
      · have e : (decide (p = -1) || decide (1 ≤ p)) = true := by simp [hp1]
        have HE1 := Lib.hid e
        clear e
        go_wp2_with fail
        go_meet
        exact ⟨by rw [HE1.out], rfl⟩
      · have e : (decide (p = -1) || decide (1 ≤ p)) = false := by simp [hp, hp1]
        have HE1 := Lib.hid e
        clear e
        go_wp2_with fail
        go_meet
        exact ⟨by rw [HE1.out, show (p == -1) = false by simp [hp]], rfl⟩
  case rest =>
  obtain ⟨rfl, rfl⟩ := hcut
  generalize (decide (p = -1) || decide (1 ≤ p)) = b1 at *
  go_upto_region 2 with fail
  go_cut [3] from 4 (fun s3 wx => s3 = .bool sz ∧ wx = w.alloc (.cells #[.int .i64 p, .int .i64 q, .slice A l.length c, .int .u32 (d : Nat)] 25))
  case first =>
    cases b1 with
    | false =>
      have e : sz = false := by rw [HSB.out, Bool.false_and]
      have HE1 := Lib.hid e
      clear e
      go_wp2_with fail
      go_meet
      exact ⟨by rw [HE1.out], rfl⟩
    | true =>
      have HE : Hid (sz = (decide (q = -1) || decide (0 ≤ q))) := Lib.hid (by rw [HSB.out, Bool.true_and])
      by_cases hq : q = -1
      · subst hq
        have e : sz = true := by rw [HE.out]; rfl
        have HE1 := Lib.hid e
        clear e
        go_wp2_with fail
        go_meet
        exact ⟨by rw [HE1.out], rfl⟩
      · by_cases hq1 : 0 ≤ q
        · have e : sz = true := by rw [HE.out]; simp [hq1]
          have HE1 := Lib.hid e
          clear e
          go_wp2_with fail
          go_meet
          exact ⟨by rw [HE1.out], rfl⟩
        · have e : sz = false := by rw [HE.out]; simp [hq, hq1]
          have HE1 := Lib.hid e
          clear e
          go_wp2_with fail
          go_meet
          exact ⟨by rw [HE1.out, show (q == -1) = false by simp [hq]], rfl⟩
  case rest =>
  obtain ⟨rfl, rfl⟩ := hcut
  clear HSB k0 k1 hF0
  obtain ⟨BX, hBX⟩ : ∃ BX, Obj.cells #[Value.int .i64 p, .int .i64 q, .slice A l.length c, .int .u32 (d : Nat)] 25 = BX := ⟨_, rfl⟩
  rw [hBX] at HB0 hF HC2 HC3 ⊢
  have hdr : Below (w.alloc BX).heap.size (w.alloc BX) (w.alloc BX).drew := below_drew _
  have hdw := hdr
  clear hBX hsz o1 o2 o3 o4
  cases sz with
  | false =>
    have HF : Hid (R = false) := Lib.hid (by rw [HV.out]; rfl)
    go_upto_region 3 with fail
    refine wp_region_held_drew (S := fun w' => Below (w.alloc BX).heap.size (w.alloc BX) w') (by kernel_rfl) hdr (fun hS => ?_)
    refine wpAnyH_take (i := 0) (oi := { dst := some 23, op := Op.move (Operand.tmp 3), type := 4, pos := "header.go:68", after := #[], guard := none }) (v := ?vv01) rfl (by kernel_rfl) (by kernel_rfl) (by kernel_rfl) (fun _ _ _ h => h) (Or.inl ⟨by rfl, ?yv01⟩) hS ?_
    case yv01 =>
      intro w hSw
      go_simp; all_goals (with_reducible rfl)
    simp only [Act.put, List.setIfInBounds_toArray, List.set_cons_zero, List.set_cons_succ]
    refine wpAnyH_take (i := 1) (oi := { dst := some 24, op := Op.move (Operand.tmp 23), type := 4, pos := "header.go:68", after := #[{ on := 0, ground := Ground.data }], guard := none }) (v := ?vv02) rfl (by kernel_rfl) (by kernel_rfl) (by kernel_rfl) (fun _ _ _ h => h) (Or.inl ⟨by rfl, ?yv02⟩) hS ?_
    case yv02 =>
      intro w hSw
      go_simp; all_goals (with_reducible rfl)
    simp only [Act.put, List.setIfInBounds_toArray, List.set_cons_zero, List.set_cons_succ]
    refine wpAnyH_take (i := 2) (oi := { dst := some 25, op := Op.fieldAddr 25 (Operand.tmp 1) 2, type := 0, pos := "header.go:68", after := #[{ on := 1, ground := Ground.guard }], guard := some (1, true) }) (v := undef) rfl (by kernel_rfl) (by kernel_rfl) (by kernel_rfl) (fun _ _ _ h => h) (Or.inr ⟨by rfl, rfl⟩) hS ?_
    simp only [Act.put, List.setIfInBounds_toArray, List.set_cons_zero, List.set_cons_succ]
    refine wpAnyH_take (i := 3) (oi := { dst := some 26, op := Op.load 22 (Operand.tmp 25), type := 22, pos := "header.go:68", after := #[{ on := 2, ground := Ground.data }, { on := 1, ground := Ground.guard }], guard := some (1, true) }) (v := undef) rfl (by kernel_rfl) (by kernel_rfl) (by kernel_rfl) (fun _ _ _ h => h) (Or.inr ⟨by rfl, rfl⟩) hS ?_
    simp only [Act.put, List.setIfInBounds_toArray, List.set_cons_zero, List.set_cons_succ]
    refine wpAnyH_take (i := 4) (oi := { dst := some 27, op := Op.call { callee := Callee.value (Operand.func 32), args := #[Operand.tmp 26], argTypes := #[22] }, type := 4, pos := "header.go:68", after := #[{ on := 3, ground := Ground.data }, { on := 1, ground := Ground.chain }, { on := 1, ground := Ground.guard }], guard := some (1, true) }) (v := undef) rfl (by kernel_rfl) (by kernel_rfl) (by kernel_rfl) (fun _ _ _ h => h) (Or.inr ⟨by rfl, rfl⟩) hS ?_
    simp only [Act.put, List.setIfInBounds_toArray, List.set_cons_zero, List.set_cons_succ]
    refine wpAnyH_take (i := 5) (oi := { dst := some 28, op := Op.pick (Operand.tmp 24) (Operand.tmp 27) (Operand.const (Value.bool false)), type := 4, pos := "header.go:68", after := #[{ on := 1, ground := Ground.data }, { on := 4, ground := Ground.data }], guard := none }) (v := ?vv06) rfl (by kernel_rfl) (by kernel_rfl) (by kernel_rfl) (fun _ _ _ h => h) (Or.inl ⟨by rfl, ?yv06⟩) hS ?_
    case yv06 =>
      intro w hSw
      go_simp; all_goals (with_reducible rfl)
    simp only [Act.put, List.setIfInBounds_toArray, List.set_cons_zero, List.set_cons_succ]
    refine wpAnyH_take (i := 6) (oi := { dst := some 29, op := Op.move (Operand.tmp 28), type := 4, pos := "header.go:68", after := #[{ on := 5, ground := Ground.data }, { on := 4, ground := Ground.chain }], guard := none }) (v := ?vv07) rfl (by kernel_rfl) (by kernel_rfl) (by kernel_rfl) (fun _ _ _ h => h) (Or.inl ⟨by rfl, ?yv07⟩) hS ?_
    case yv07 =>
      intro w hSw
      go_simp; all_goals (with_reducible rfl)
    simp only [Act.put, List.setIfInBounds_toArray, List.set_cons_zero, List.set_cons_succ]
    refine wpAnyH_take (i := 7) (oi := { dst := some 30, op := Op.fieldAddr 25 (Operand.tmp 1) 3, type := 0, pos := "header.go:68", after := #[{ on := 6, ground := Ground.guard }], guard := some (6, true) }) (v := undef) rfl (by kernel_rfl) (by kernel_rfl) (by kernel_rfl) (fun _ _ _ h => h) (Or.inr ⟨by rfl, rfl⟩) hS ?_
    simp only [Act.put, List.setIfInBounds_toArray, List.set_cons_zero, List.set_cons_succ]
    refine wpAnyH_take (i := 8) (oi := { dst := some 31, op := Op.load 23 (Operand.tmp 30), type := 23, pos := "header.go:68", after := #[{ on := 7, ground := Ground.data }, { on := 6, ground := Ground.guard }], guard := some (6, true) }) (v := undef) rfl (by kernel_rfl) (by kernel_rfl) (by kernel_rfl) (fun _ _ _ h => h) (Or.inr ⟨by rfl, rfl⟩) hS ?_
    simp only [Act.put, List.setIfInBounds_toArray, List.set_cons_zero, List.set_cons_succ]
    refine wpAnyH_take (i := 9) (oi := { dst := some 32, op := Op.call { callee := Callee.value (Operand.func 34), args := #[Operand.tmp 31], argTypes := #[23] }, type := 3, pos := "header.go:68", after := #[{ on := 8, ground := Ground.data }, { on := 6, ground := Ground.chain }, { on := 6, ground := Ground.guard }], guard := some (6, true) }) (v := undef) rfl (by kernel_rfl) (by kernel_rfl) (by kernel_rfl) (fun _ _ _ h => h) (Or.inr ⟨by rfl, rfl⟩) hS ?_
    simp only [Act.put, List.setIfInBounds_toArray, List.set_cons_zero, List.set_cons_succ]
    refine wpAnyH_take (i := 10) (oi := { dst := some 33, op := Op.call { callee := Callee.value (Operand.func 33), args := #[Operand.tmp 32], argTypes := #[3] }, type := 23, pos := "header.go:68", after := #[{ on := 9, ground := Ground.data }, { on := 9, ground := Ground.chain }, { on := 6, ground := Ground.guard }], guard := some (6, true) }) (v := undef) rfl (by kernel_rfl) (by kernel_rfl) (by kernel_rfl) (fun _ _ _ h => h) (Or.inr ⟨by rfl, rfl⟩) hS ?_
    simp only [Act.put, List.setIfInBounds_toArray, List.set_cons_zero, List.set_cons_succ]
    refine wpAnyH_take (i := 11) (oi := { dst := some 34, op := Op.fieldAddr 25 (Operand.tmp 1) 3, type := 0, pos := "header.go:68", after := #[{ on := 6, ground := Ground.guard }], guard := some (6, true) }) (v := undef) rfl (by kernel_rfl) (by kernel_rfl) (by kernel_rfl) (fun _ _ _ h => h) (Or.inr ⟨by rfl, rfl⟩) hS ?_
    simp only [Act.put, List.setIfInBounds_toArray, List.set_cons_zero, List.set_cons_succ]
    refine wpAnyH_take (i := 12) (oi := { dst := some 35, op := Op.load 23 (Operand.tmp 34), type := 23, pos := "header.go:68", after := #[{ on := 11, ground := Ground.data }, { on := 6, ground := Ground.guard }], guard := some (6, true) }) (v := undef) rfl (by kernel_rfl) (by kernel_rfl) (by kernel_rfl) (fun _ _ _ h => h) (Or.inr ⟨by rfl, rfl⟩) hS ?_
    simp only [Act.put, List.setIfInBounds_toArray, List.set_cons_zero, List.set_cons_succ]
    refine wpAnyH_take (i := 13) (oi := { dst := some 36, op := Op.binOp BinOp.eql 23 (Operand.tmp 33) (Operand.tmp 35) 23, type := 4, pos := "header.go:68", after := #[{ on := 10, ground := Ground.data }, { on := 12, ground := Ground.data }, { on := 6, ground := Ground.guard }], guard := some (6, true) }) (v := undef) rfl (by kernel_rfl) (by kernel_rfl) (by kernel_rfl) (fun _ _ _ h => h) (Or.inr ⟨by rfl, rfl⟩) hS ?_
    simp only [Act.put, List.setIfInBounds_toArray, List.set_cons_zero, List.set_cons_succ]
    refine wpAnyH_take (i := 14) (oi := { dst := some 37, op := Op.pick (Operand.tmp 29) (Operand.tmp 36) (Operand.const (Value.bool false)), type := 4, pos := "header.go:68", after := #[{ on := 6, ground := Ground.data }, { on := 13, ground := Ground.data }], guard := none }) (v := ?vv015) rfl (by kernel_rfl) (by kernel_rfl) (by kernel_rfl) (fun _ _ _ h => h) (Or.inl ⟨by rfl, ?yv015⟩) hS ?_
    case yv015 =>
      intro w hSw
      go_simp; all_goals (with_reducible rfl)
    simp only [Act.put, List.setIfInBounds_toArray, List.set_cons_zero, List.set_cons_succ]
    refine wpAnyH_take (i := 15) (oi := { dst := some 2, op := Op.assign (Operand.tmp 37), type := 4, pos := "header.go:68", after := #[{ on := 14, ground := Ground.data }, { on := 10, ground := Ground.chain }, { on := 0, ground := Ground.phase }, { on := 1, ground := Ground.phase }, { on := 2, ground := Ground.phase }, { on := 3, ground := Ground.phase }, { on := 4, ground := Ground.phase }, { on := 5, ground := Ground.phase }, { on := 6, ground := Ground.phase }, { on := 7, ground := Ground.phase }, { on := 8, ground := Ground.phase }, { on := 9, ground := Ground.phase }, { on := 10, ground := Ground.phase }, { on := 11, ground := Ground.phase }, { on := 12, ground := Ground.phase }, { on := 13, ground := Ground.phase }, { on := 14, ground := Ground.phase }], guard := none }) (v := ?vv016) rfl (by kernel_rfl) (by kernel_rfl) (by kernel_rfl) (fun _ _ _ h => h) (Or.inl ⟨by rfl, ?yv016⟩) hS ?_
    case yv016 =>
      intro w hSw
      go_simp; all_goals (with_reducible rfl)
    simp only [Act.put, List.setIfInBounds_toArray, List.set_cons_zero, List.set_cons_succ]
    refine wpAnyH_done (by kernel_rfl) ?_ _
    go_wp2_with fail
    go_ret
    exact ⟨by rw [HF.out]; rfl, HB0.out.trans (hdr.mono HB0.out.size)⟩
  | true =>
    rw [Bool.true_and] at HV
    generalize mayL l = m at *
    cases m with
    | false =>
      have HF : Hid (R = false) := Lib.hid (by rw [HV.out]; rfl)
      go_upto_region 3 with fail
      refine wp_region_held_drew (S := fun w' => Below (w.alloc BX).heap.size (w.alloc BX) w') (by kernel_rfl) hdr (fun hS => ?_)
      refine wpAnyH_take (i := 0) (oi := { dst := some 23, op := Op.move (Operand.tmp 3), type := 4, pos := "header.go:68", after := #[], guard := none }) (v := ?vv117) rfl (by kernel_rfl) (by kernel_rfl) (by kernel_rfl) (fun _ _ _ h => h) (Or.inl ⟨by rfl, ?yv117⟩) hS ?_
      case yv117 =>
        intro w hSw
        go_simp; all_goals (with_reducible rfl)
      simp only [Act.put, List.setIfInBounds_toArray, List.set_cons_zero, List.set_cons_succ]
      refine wpAnyH_take (i := 1) (oi := { dst := some 24, op := Op.move (Operand.tmp 23), type := 4, pos := "header.go:68", after := #[{ on := 0, ground := Ground.data }], guard := none }) (v := ?vv118) rfl (by kernel_rfl) (by kernel_rfl) (by kernel_rfl) (fun _ _ _ h => h) (Or.inl ⟨by rfl, ?yv118⟩) hS ?_
      case yv118 =>
        intro w hSw
        go_simp; all_goals (with_reducible rfl)
      simp only [Act.put, List.setIfInBounds_toArray, List.set_cons_zero, List.set_cons_succ]
      refine wpAnyH_take (i := 2) (oi := { dst := some 25, op := Op.fieldAddr 25 (Operand.tmp 1) 2, type := 0, pos := "header.go:68", after := #[{ on := 1, ground := Ground.guard }], guard := some (1, true) }) (v := ?vv119) rfl (by kernel_rfl) (by kernel_rfl) (by kernel_rfl) (fun _ _ _ h => h) (Or.inl ⟨by rfl, ?yv119⟩) hS ?_
      case yv119 =>
        intro w hSw
        go_simp; all_goals (with_reducible rfl)
      simp only [Act.put, List.setIfInBounds_toArray, List.set_cons_zero, List.set_cons_succ]
      refine wpAnyH_take (i := 3) (oi := { dst := some 26, op := Op.load 22 (Operand.tmp 25), type := 22, pos := "header.go:68", after := #[{ on := 2, ground := Ground.data }, { on := 1, ground := Ground.guard }], guard := some (1, true) }) (v := ?vv120) rfl (by kernel_rfl) (by kernel_rfl) (by kernel_rfl) (fun _ _ _ h => h) (Or.inl ⟨by rfl, ?yv120⟩) hS ?_
      case yv120 =>
        intro w hSw
        have j2 := HC2.out w hSw
        go_simp; all_goals (with_reducible rfl)
      simp only [Act.put, List.setIfInBounds_toArray, List.set_cons_zero, List.set_cons_succ]
      refine wpAnyH_ready (rs := [4]) (by kernel_rfl) (by simp) ?_
      refine (AllReadyH.cons (o := { dst := some 27, op := Op.call { callee := Callee.value (Operand.func 32), args := #[Operand.tmp 26], argTypes := #[22] }, type := 4, pos := "header.go:68", after := #[{ on := 3, ground := Ground.data }, { on := 1, ground := Ground.chain }, { on := 1, ground := Ground.guard }], guard := some (1, true) }) rfl (fun K hK => ?_) AllReadyH.nil)
      go_simp
      refine (HM.out (w.alloc BX).drew (hF.below hdw)).mono ?_
      rintro e w1 ⟨rfl, hb1⟩
      have g1 : Below (w.alloc BX).heap.size (w.alloc BX) w1 := hdr.trans (hb1.mono hdr.size)
      go_wp2_with fail
      refine hK.out _ _ g1 (fun _ => ?_)
      clear hK K
      refine wpAnyH_take (i := 5) (oi := { dst := some 28, op := Op.pick (Operand.tmp 24) (Operand.tmp 27) (Operand.const (Value.bool false)), type := 4, pos := "header.go:68", after := #[{ on := 1, ground := Ground.data }, { on := 4, ground := Ground.data }], guard := none }) (v := ?vv121) rfl (by kernel_rfl) (by kernel_rfl) (by kernel_rfl) (fun _ _ _ h => h) (Or.inl ⟨by rfl, ?yv121⟩) g1 ?_
      case yv121 =>
        intro w hSw
        go_simp; all_goals (with_reducible rfl)
      simp only [Act.put, List.setIfInBounds_toArray, List.set_cons_zero, List.set_cons_succ]
      refine wpAnyH_take (i := 6) (oi := { dst := some 29, op := Op.move (Operand.tmp 28), type := 4, pos := "header.go:68", after := #[{ on := 5, ground := Ground.data }, { on := 4, ground := Ground.chain }], guard := none }) (v := ?vv122) rfl (by kernel_rfl) (by kernel_rfl) (by kernel_rfl) (fun _ _ _ h => h) (Or.inl ⟨by rfl, ?yv122⟩) g1 ?_
      case yv122 =>
        intro w hSw
        go_simp; all_goals (with_reducible rfl)
      simp only [Act.put, List.setIfInBounds_toArray, List.set_cons_zero, List.set_cons_succ]
      refine wpAnyH_take (i := 7) (oi := { dst := some 30, op := Op.fieldAddr 25 (Operand.tmp 1) 3, type := 0, pos := "header.go:68", after := #[{ on := 6, ground := Ground.guard }], guard := some (6, true) }) (v := undef) rfl (by kernel_rfl) (by kernel_rfl) (by kernel_rfl) (fun _ _ _ h => h) (Or.inr ⟨by rfl, rfl⟩) g1 ?_
      simp only [Act.put, List.setIfInBounds_toArray, List.set_cons_zero, List.set_cons_succ]
      refine wpAnyH_take (i := 8) (oi := { dst := some 31, op := Op.load 23 (Operand.tmp 30), type := 23, pos := "header.go:68", after := #[{ on := 7, ground := Ground.data }, { on := 6, ground := Ground.guard }], guard := some (6, true) }) (v := undef) rfl (by kernel_rfl) (by kernel_rfl) (by kernel_rfl) (fun _ _ _ h => h) (Or.inr ⟨by rfl, rfl⟩) g1 ?_
      simp only [Act.put, List.setIfInBounds_toArray, List.set_cons_zero, List.set_cons_succ]
      refine wpAnyH_take (i := 9) (oi := { dst := some 32, op := Op.call { callee := Callee.value (Operand.func 34), args := #[Operand.tmp 31], argTypes := #[23] }, type := 3, pos := "header.go:68", after := #[{ on := 8, ground := Ground.data }, { on := 6, ground := Ground.chain }, { on := 6, ground := Ground.guard }], guard := some (6, true) }) (v := undef) rfl (by kernel_rfl) (by kernel_rfl) (by kernel_rfl) (fun _ _ _ h => h) (Or.inr ⟨by rfl, rfl⟩) g1 ?_
      simp only [Act.put, List.setIfInBounds_toArray, List.set_cons_zero, List.set_cons_succ]
      refine wpAnyH_take (i := 10) (oi := { dst := some 33, op := Op.call { callee := Callee.value (Operand.func 33), args := #[Operand.tmp 32], argTypes := #[3] }, type := 23, pos := "header.go:68", after := #[{ on := 9, ground := Ground.data }, { on := 9, ground := Ground.chain }, { on := 6, ground := Ground.guard }], guard := some (6, true) }) (v := undef) rfl (by kernel_rfl) (by kernel_rfl) (by kernel_rfl) (fun _ _ _ h => h) (Or.inr ⟨by rfl, rfl⟩) g1 ?_
      simp only [Act.put, List.setIfInBounds_toArray, List.set_cons_zero, List.set_cons_succ]
      refine wpAnyH_take (i := 11) (oi := { dst := some 34, op := Op.fieldAddr 25 (Operand.tmp 1) 3, type := 0, pos := "header.go:68", after := #[{ on := 6, ground := Ground.guard }], guard := some (6, true) }) (v := undef) rfl (by kernel_rfl) (by kernel_rfl) (by kernel_rfl) (fun _ _ _ h => h) (Or.inr ⟨by rfl, rfl⟩) g1 ?_
      simp only [Act.put, List.setIfInBounds_toArray, List.set_cons_zero, List.set_cons_succ]
      refine wpAnyH_take (i := 12) (oi := { dst := some 35, op := Op.load 23 (Operand.tmp 34), type := 23, pos := "header.go:68", after := #[{ on := 11, ground := Ground.data }, { on := 6, ground := Ground.guard }], guard := some (6, true) }) (v := undef) rfl (by kernel_rfl) (by kernel_rfl) (by kernel_rfl) (fun _ _ _ h => h) (Or.inr ⟨by rfl, rfl⟩) g1 ?_
      simp only [Act.put, List.setIfInBounds_toArray, List.set_cons_zero, List.set_cons_succ]
      refine wpAnyH_take (i := 13) (oi := { dst := some 36, op := Op.binOp BinOp.eql 23 (Operand.tmp 33) (Operand.tmp 35) 23, type := 4, pos := "header.go:68", after := #[{ on := 10, ground := Ground.data }, { on := 12, ground := Ground.data }, { on := 6, ground := Ground.guard }], guard := some (6, true) }) (v := undef) rfl (by kernel_rfl) (by kernel_rfl) (by kernel_rfl) (fun _ _ _ h => h) (Or.inr ⟨by rfl, rfl⟩) g1 ?_
      simp only [Act.put, List.setIfInBounds_toArray, List.set_cons_zero, List.set_cons_succ]
      refine wpAnyH_take (i := 14) (oi := { dst := some 37, op := Op.pick (Operand.tmp 29) (Operand.tmp 36) (Operand.const (Value.bool false)), type := 4, pos := "header.go:68", after := #[{ on := 6, ground := Ground.data }, { on := 13, ground := Ground.data }], guard := none }) (v := ?vv130) rfl (by kernel_rfl) (by kernel_rfl) (by kernel_rfl) (fun _ _ _ h => h) (Or.inl ⟨by rfl, ?yv130⟩) g1 ?_
      case yv130 =>
        intro w hSw
        go_simp; all_goals (with_reducible rfl)
      simp only [Act.put, List.setIfInBounds_toArray, List.set_cons_zero, List.set_cons_succ]
      refine wpAnyH_take (i := 15) (oi := { dst := some 2, op := Op.assign (Operand.tmp 37), type := 4, pos := "header.go:68", after := #[{ on := 14, ground := Ground.data }, { on := 10, ground := Ground.chain }, { on := 0, ground := Ground.phase }, { on := 1, ground := Ground.phase }, { on := 2, ground := Ground.phase }, { on := 3, ground := Ground.phase }, { on := 4, ground := Ground.phase }, { on := 5, ground := Ground.phase }, { on := 6, ground := Ground.phase }, { on := 7, ground := Ground.phase }, { on := 8, ground := Ground.phase }, { on := 9, ground := Ground.phase }, { on := 10, ground := Ground.phase }, { on := 11, ground := Ground.phase }, { on := 12, ground := Ground.phase }, { on := 13, ground := Ground.phase }, { on := 14, ground := Ground.phase }], guard := none }) (v := ?vv131) rfl (by kernel_rfl) (by kernel_rfl) (by kernel_rfl) (fun _ _ _ h => h) (Or.inl ⟨by rfl, ?yv131⟩) g1 ?_
      case yv131 =>
        intro w hSw
        go_simp; all_goals (with_reducible rfl)
      simp only [Act.put, List.setIfInBounds_toArray, List.set_cons_zero, List.set_cons_succ]
      refine wpAnyH_done (by kernel_rfl) ?_ _
      go_wp2_with fail
      go_ret
      exact ⟨by rw [HF.out]; rfl, HB0.out.trans (g1.mono HB0.out.size)⟩
    | true =>
      have HF : Hid (R = dictB d) := Lib.hid (by rw [HV.out, Bool.true_and])
      have hdec : dictB d = ((dictN (codeN d) : Int) == (d : Int)) := by rw [HDB.out, Bool.eq_iff_iff]; simp; omega
      rw [hdec] at HF
      clear hdec HDB
      generalize dictN (codeN d) = D at *
      go_upto_region 3 with fail
      refine wp_region_held_drew (S := fun w' => Below (w.alloc BX).heap.size (w.alloc BX) w') (by kernel_rfl) hdr (fun hS => ?_)
      refine wpAnyH_take (i := 0) (oi := { dst := some 23, op := Op.move (Operand.tmp 3), type := 4, pos := "header.go:68", after := #[], guard := none }) (v := ?vv232) rfl (by kernel_rfl) (by kernel_rfl) (by kernel_rfl) (fun _ _ _ h => h) (Or.inl ⟨by rfl, ?yv232⟩) hS ?_
      case yv232 =>
        intro w hSw
        go_simp; all_goals (with_reducible rfl)
      simp only [Act.put, List.setIfInBounds_toArray, List.set_cons_zero, List.set_cons_succ]
      refine wpAnyH_take (i := 1) (oi := { dst := some 24, op := Op.move (Operand.tmp 23), type := 4, pos := "header.go:68", after := #[{ on := 0, ground := Ground.data }], guard := none }) (v := ?vv233) rfl (by kernel_rfl) (by kernel_rfl) (by kernel_rfl) (fun _ _ _ h => h) (Or.inl ⟨by rfl, ?yv233⟩) hS ?_
      case yv233 =>
        intro w hSw
        go_simp; all_goals (with_reducible rfl)
      simp only [Act.put, List.setIfInBounds_toArray, List.set_cons_zero, List.set_cons_succ]
      refine wpAnyH_take (i := 2) (oi := { dst := some 25, op := Op.fieldAddr 25 (Operand.tmp 1) 2, type := 0, pos := "header.go:68", after := #[{ on := 1, ground := Ground.guard }], guard := some (1, true) }) (v := ?vv234) rfl (by kernel_rfl) (by kernel_rfl) (by kernel_rfl) (fun _ _ _ h => h) (Or.inl ⟨by rfl, ?yv234⟩) hS ?_
      case yv234 =>
        intro w hSw
        go_simp; all_goals (with_reducible rfl)
      simp only [Act.put, List.setIfInBounds_toArray, List.set_cons_zero, List.set_cons_succ]
      refine wpAnyH_take (i := 3) (oi := { dst := some 26, op := Op.load 22 (Operand.tmp 25), type := 22, pos := "header.go:68", after := #[{ on := 2, ground := Ground.data }, { on := 1, ground := Ground.guard }], guard := some (1, true) }) (v := ?vv235) rfl (by kernel_rfl) (by kernel_rfl) (by kernel_rfl) (fun _ _ _ h => h) (Or.inl ⟨by rfl, ?yv235⟩) hS ?_
      case yv235 =>
        intro w hSw
        have j2 := HC2.out w hSw
        go_simp; all_goals (with_reducible rfl)
      simp only [Act.put, List.setIfInBounds_toArray, List.set_cons_zero, List.set_cons_succ]
      refine wpAnyH_ready (rs := [4]) (by kernel_rfl) (by simp) ?_
      refine (AllReadyH.cons (o := { dst := some 27, op := Op.call { callee := Callee.value (Operand.func 32), args := #[Operand.tmp 26], argTypes := #[22] }, type := 4, pos := "header.go:68", after := #[{ on := 3, ground := Ground.data }, { on := 1, ground := Ground.chain }, { on := 1, ground := Ground.guard }], guard := some (1, true) }) rfl (fun K hK => ?_) AllReadyH.nil)
      go_simp
      refine (HM.out (w.alloc BX).drew (hF.below hdw)).mono ?_
      rintro e w1 ⟨rfl, hb1⟩
      have g1 : Below (w.alloc BX).heap.size (w.alloc BX) w1 := hdr.trans (hb1.mono hdr.size)
      go_wp2_with fail
      refine hK.out _ _ g1 (fun _ => ?_)
      clear hK K
      refine wpAnyH_take (i := 5) (oi := { dst := some 28, op := Op.pick (Operand.tmp 24) (Operand.tmp 27) (Operand.const (Value.bool false)), type := 4, pos := "header.go:68", after := #[{ on := 1, ground := Ground.data }, { on := 4, ground := Ground.data }], guard := none }) (v := ?vv236) rfl (by kernel_rfl) (by kernel_rfl) (by kernel_rfl) (fun _ _ _ h => h) (Or.inl ⟨by rfl, ?yv236⟩) g1 ?_
      case yv236 =>
        intro w hSw
        go_simp; all_goals (with_reducible rfl)
      simp only [Act.put, List.setIfInBounds_toArray, List.set_cons_zero, List.set_cons_succ]
      refine wpAnyH_take (i := 6) (oi := { dst := some 29, op := Op.move (Operand.tmp 28), type := 4, pos := "header.go:68", after := #[{ on := 5, ground := Ground.data }, { on := 4, ground := Ground.chain }], guard := none }) (v := ?vv237) rfl (by kernel_rfl) (by kernel_rfl) (by kernel_rfl) (fun _ _ _ h => h) (Or.inl ⟨by rfl, ?yv237⟩) g1 ?_
      case yv237 =>
        intro w hSw
        go_simp; all_goals (with_reducible rfl)
      simp only [Act.put, List.setIfInBounds_toArray, List.set_cons_zero, List.set_cons_succ]
      refine wpAnyH_take (i := 7) (oi := { dst := some 30, op := Op.fieldAddr 25 (Operand.tmp 1) 3, type := 0, pos := "header.go:68", after := #[{ on := 6, ground := Ground.guard }], guard := some (6, true) }) (v := ?vv238) rfl (by kernel_rfl) (by kernel_rfl) (by kernel_rfl) (fun _ _ _ h => h) (Or.inl ⟨by rfl, ?yv238⟩) g1 ?_
      case yv238 =>
        intro w hSw
        go_simp; all_goals (with_reducible rfl)
      simp only [Act.put, List.setIfInBounds_toArray, List.set_cons_zero, List.set_cons_succ]
      refine wpAnyH_take (i := 8) (oi := { dst := some 31, op := Op.load 23 (Operand.tmp 30), type := 23, pos := "header.go:68", after := #[{ on := 7, ground := Ground.data }, { on := 6, ground := Ground.guard }], guard := some (6, true) }) (v := ?vv239) rfl (by kernel_rfl) (by kernel_rfl) (by kernel_rfl) (fun _ _ _ h => h) (Or.inl ⟨by rfl, ?yv239⟩) g1 ?_
      case yv239 =>
        intro w hSw
        have j3 := HC3.out w hSw
        go_simp; all_goals (with_reducible rfl)
      simp only [Act.put, List.setIfInBounds_toArray, List.set_cons_zero, List.set_cons_succ]
      refine wpAnyH_take (i := 11) (oi := { dst := some 34, op := Op.fieldAddr 25 (Operand.tmp 1) 3, type := 0, pos := "header.go:68", after := #[{ on := 6, ground := Ground.guard }], guard := some (6, true) }) (v := ?vv240) rfl (by kernel_rfl) (by kernel_rfl) (by kernel_rfl) (fun _ _ _ h => h) (Or.inl ⟨by rfl, ?yv240⟩) g1 ?_
      case yv240 =>
        intro w hSw
        go_simp; all_goals (with_reducible rfl)
      simp only [Act.put, List.setIfInBounds_toArray, List.set_cons_zero, List.set_cons_succ]
      refine wpAnyH_take (i := 12) (oi := { dst := some 35, op := Op.load 23 (Operand.tmp 34), type := 23, pos := "header.go:68", after := #[{ on := 11, ground := Ground.data }, { on := 6, ground := Ground.guard }], guard := some (6, true) }) (v := ?vv241) rfl (by kernel_rfl) (by kernel_rfl) (by kernel_rfl) (fun _ _ _ h => h) (Or.inl ⟨by rfl, ?yv241⟩) g1 ?_
      case yv241 =>
        intro w hSw
        have j3 := HC3.out w hSw
        go_simp; all_goals (with_reducible rfl)
      simp only [Act.put, List.setIfInBounds_toArray, List.set_cons_zero, List.set_cons_succ]
      refine wpAnyH_ready (rs := [9]) (by kernel_rfl) (by simp) ?_
      refine (AllReadyH.cons (o := { dst := some 32, op := Op.call { callee := Callee.value (Operand.func 34), args := #[Operand.tmp 31], argTypes := #[23] }, type := 3, pos := "header.go:68", after := #[{ on := 8, ground := Ground.data }, { on := 6, ground := Ground.chain }, { on := 6, ground := Ground.guard }], guard := some (6, true) }) rfl (fun K hK => ?_) AllReadyH.nil)
      go_simp
      refine (HCO.out w1).mono ?_
      rintro e w2 ⟨rfl, rfl⟩
      go_wp2_with fail
      refine hK.out _ _ g1 (fun _ => ?_)
      clear hK K
      refine wpAnyH_ready (rs := [10]) (by kernel_rfl) (by simp) ?_
      refine (AllReadyH.cons (o := { dst := some 33, op := Op.call { callee := Callee.value (Operand.func 33), args := #[Operand.tmp 32], argTypes := #[3] }, type := 23, pos := "header.go:68", after := #[{ on := 9, ground := Ground.data }, { on := 9, ground := Ground.chain }, { on := 6, ground := Ground.guard }], guard := some (6, true) }) rfl (fun K hK => ?_) AllReadyH.nil)
      go_simp
      refine (HDI.out w1).mono ?_
      rintro e w2 ⟨rfl, rfl⟩
      go_wp2_with fail
      refine hK.out _ _ g1 (fun _ => ?_)
      clear hK K
      refine wpAnyH_take (i := 13) (oi := { dst := some 36, op := Op.binOp BinOp.eql 23 (Operand.tmp 33) (Operand.tmp 35) 23, type := 4, pos := "header.go:68", after := #[{ on := 10, ground := Ground.data }, { on := 12, ground := Ground.data }, { on := 6, ground := Ground.guard }], guard := some (6, true) }) (v := ?vv242) rfl (by kernel_rfl) (by kernel_rfl) (by kernel_rfl) (fun _ _ _ h => h) (Or.inl ⟨by rfl, ?yv242⟩) g1 ?_
      case yv242 =>
        intro w hSw
        go_simp; all_goals (with_reducible rfl)
      simp only [Act.put, List.setIfInBounds_toArray, List.set_cons_zero, List.set_cons_succ]
      refine wpAnyH_take (i := 14) (oi := { dst := some 37, op := Op.pick (Operand.tmp 29) (Operand.tmp 36) (Operand.const (Value.bool false)), type := 4, pos := "header.go:68", after := #[{ on := 6, ground := Ground.data }, { on := 13, ground := Ground.data }], guard := none }) (v := ?vv243) rfl (by kernel_rfl) (by kernel_rfl) (by kernel_rfl) (fun _ _ _ h => h) (Or.inl ⟨by rfl, ?yv243⟩) g1 ?_
      case yv243 =>
        intro w hSw
        go_simp; all_goals (with_reducible rfl)
      simp only [Act.put, List.setIfInBounds_toArray, List.set_cons_zero, List.set_cons_succ]
      refine wpAnyH_take (i := 15) (oi := { dst := some 2, op := Op.assign (Operand.tmp 37), type := 4, pos := "header.go:68", after := #[{ on := 14, ground := Ground.data }, { on := 10, ground := Ground.chain }, { on := 0, ground := Ground.phase }, { on := 1, ground := Ground.phase }, { on := 2, ground := Ground.phase }, { on := 3, ground := Ground.phase }, { on := 4, ground := Ground.phase }, { on := 5, ground := Ground.phase }, { on := 6, ground := Ground.phase }, { on := 7, ground := Ground.phase }, { on := 8, ground := Ground.phase }, { on := 9, ground := Ground.phase }, { on := 10, ground := Ground.phase }, { on := 11, ground := Ground.phase }, { on := 12, ground := Ground.phase }, { on := 13, ground := Ground.phase }, { on := 14, ground := Ground.phase }], guard := none }) (v := ?vv244) rfl (by kernel_rfl) (by kernel_rfl) (by kernel_rfl) (fun _ _ _ h => h) (Or.inl ⟨by rfl, ?yv244⟩) g1 ?_
      case yv244 =>
        intro w hSw
        go_simp; all_goals (with_reducible rfl)
      simp only [Act.put, List.setIfInBounds_toArray, List.set_cons_zero, List.set_cons_succ]
      refine wpAnyH_done (by kernel_rfl) ?_ _
      go_wp2_with fail
      go_ret
      exact ⟨by rw [HF.out]; rfl, HB0.out.trans (g1.mono HB0.out.size)⟩
end Go.Proofs.YtaggkcgeddoogaaDoor
