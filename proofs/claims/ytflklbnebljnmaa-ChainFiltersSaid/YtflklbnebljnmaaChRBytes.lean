/- Filters' bytes, by the reference. -/
import Derived.Test.YtflklbnebljnmaaChBytes
import Derived.Deep.RegionHeld3
namespace Go.Proofs.Ytflklbnebljnmaa
open Go.RowKit

def NoDict (n k : Nat) : Prop := ∀ j, j < k → dictN j ≠ n
theorem bytes_hit (n k : Nat) (hk : k ≤ 40) (_hno : NoDict n k) (h : dictN k = n) : bytesL ⟨33, n⟩ = some [UInt8.ofNat k] := by
  have e : codeN n = k := codeN_eq n k hk (by omega) (fun j hj => by rw [← h]; exact dictN_mono j k hj hk)
  unfold bytesL
  simp only [if_true]
  rw [e, if_pos h]
theorem bytes_miss (n : Nat) (hno : NoDict n 41) : bytesL ⟨33, n⟩ = none := by
  unfold bytesL
  simp only [if_true]
  rw [if_neg (hno _ (by have := codeN_le n; omega))]

set_option maxRecDepth 100000 in
set_option maxHeartbeats 1000000 in
theorem rbytes_33 (n : Nat) (hn : n < 4294967296) (w : World) :
    Calls Try.prog 13 #[.agg #[.int .i64 33, .int .u32 (n : Nat)]] w (OutO w (.bool true) (.bool false) (bytesL ⟨33, n⟩)) := by
  have HH := Lib.hid (bytes_hit n)
  have HM := Lib.hid (bytes_miss n)
  have hb0 := below_box w (.cells #[.int .i64 33, .int .u32 (n : Nat)] 33)
  have hbx := box_cells w (.int .i64 33) (.int .u32 (n : Nat)) 33
  generalize bytesL ⟨33, n⟩ = X at *
  go_enter Try.func13, Try.ntmps13
  go_wp2_with fail
  go_loopw [4] (fun i wr => ∃ k : Nat, k ≤ 41 ∧ i = .int .i64 k ∧ NoDict n k ∧ wr.cell? ⟨w.heap.size, 0, none⟩ = some (.int .i64 33) ∧ wr.cell? ⟨w.heap.size, 1, none⟩ = some (.int .u32 (n : Nat)) ∧ Below w.heap.size w wr) (fun i _ => 41 - (intOf i).toNat)
  case atStart => exact ⟨0, by omega, rfl, fun j hj => by omega, hbx.1, hbx.2, hb0⟩
  case round =>
    clear hb0 hbx
    obtain ⟨k, hk, rfl, hno, k0, k1, hb⟩ := hrel
    by_cases hlt : k < 41
    · have HD := Lib.hid (rdict_nat k)
      have hl := dictN_lt k
      by_cases hd : dictN k = n
      · have hX := HH.out k (by omega) hno hd
        subst hX
        rw [hd] at HD hl
        have HNO := Lib.hid hno
        clear hno hd
        go_wp2_with fail
        refine wp_region_held_drew (S := fun w' => w'.cell? ⟨w.heap.size, 0, none⟩ = some (.int .i64 33) ∧ w'.cell? ⟨w.heap.size, 1, none⟩ = some (.int .u32 (n : Nat))) (by kernel_rfl) ⟨k0, k1⟩ (fun hS => ?_)
        refine wpAnyH_take (i := 0) (oi := { dst := some 13, op := Op.move (Operand.tmp 4), type := 3, pos := "ref.go:82", after := #[], guard := none }) (v := ?va1) rfl (by kernel_rfl) (by kernel_rfl) (by kernel_rfl) (fun _ _ _ h => h) (Or.inl ⟨by rfl, ?ya1⟩) hS ?_
        case ya1 =>
          intro w hSw
          go_simp; all_goals (with_reducible rfl)
        simp only [Act.put, List.setIfInBounds_toArray, List.set_cons_zero, List.set_cons_succ]
        refine wpAnyH_take (i := 2) (oi := { dst := some 15, op := Op.fieldAddr 33 (Operand.tmp 1) 1, type := 0, pos := "ref.go:82", after := #[], guard := none }) (v := ?va2) rfl (by kernel_rfl) (by kernel_rfl) (by kernel_rfl) (fun _ _ _ h => h) (Or.inl ⟨by rfl, ?ya2⟩) hS ?_
        case ya2 =>
          intro w hSw
          go_simp; all_goals (with_reducible rfl)
        simp only [Act.put, List.setIfInBounds_toArray, List.set_cons_zero, List.set_cons_succ]
        refine wpAnyH_take (i := 3) (oi := { dst := some 16, op := Op.load 31 (Operand.tmp 15), type := 31, pos := "ref.go:82", after := #[{ on := 2, ground := Ground.data }], guard := none }) (v := ?va3) rfl (by kernel_rfl) (by kernel_rfl) (by kernel_rfl) (fun _ _ _ h => h) (Or.inl ⟨by rfl, ?ya3⟩) hS ?_
        case ya3 =>
          intro w hSw
          obtain ⟨j0, j1⟩ := hSw
          go_simp; all_goals (with_reducible rfl)
        simp only [Act.put, List.setIfInBounds_toArray, List.set_cons_zero, List.set_cons_succ]
        refine wpAnyH_take (i := 4) (oi := { dst := some 17, op := Op.convert 31 42 (Operand.tmp 16), type := 42, pos := "ref.go:82", after := #[{ on := 3, ground := Ground.data }], guard := none }) (v := ?va4) rfl (by kernel_rfl) (by kernel_rfl) (by kernel_rfl) (fun _ _ _ h => h) (Or.inl ⟨by rfl, ?ya4⟩) hS ?_
        case ya4 =>
          intro w hSw
          have q2 : IntKind.u64.wrap (n : Int) = (n : Int) := IntWalk.u64_in _ (by omega)
          go_simp; all_goals (with_reducible rfl)
        simp only [Act.put, List.setIfInBounds_toArray, List.set_cons_zero, List.set_cons_succ]
        refine wpAnyH_ready (rs := [1]) (by kernel_rfl) (by simp) ?_
        refine (AllReadyH.cons (o := { dst := some 14, op := Op.call { callee := Callee.value (Operand.func 19), args := #[Operand.tmp 13], argTypes := #[3] }, type := 42, pos := "ref.go:82", after := #[{ on := 0, ground := Ground.data }], guard := none }) rfl (fun K hK => ?_) AllReadyH.nil)
        go_simp
        refine (HD.out _).mono ?_
        rintro e w' ⟨rfl, rfl⟩
        go_wp2_with fail
        refine hK.out _ _ hS (fun _ => ?_)
        clear hK K
        refine wpAnyH_take (i := 5) (oi := { dst := some 18, op := Op.binOp BinOp.eql 42 (Operand.tmp 14) (Operand.tmp 17) 42, type := 4, pos := "ref.go:82", after := #[{ on := 1, ground := Ground.data }, { on := 4, ground := Ground.data }], guard := none }) (v := ?va5) rfl (by kernel_rfl) (by kernel_rfl) (by kernel_rfl) (fun _ _ _ h => h) (Or.inl ⟨by rfl, ?ya5⟩) hS ?_
        case ya5 =>
          intro w hSw
          go_simp; all_goals (with_reducible rfl)
        simp only [Act.put, List.setIfInBounds_toArray, List.set_cons_zero, List.set_cons_succ]
        refine wpAnyH_done (by kernel_rfl) ?_ _
        go_wp2_with fail
        go_ret2
        exact ⟨_, rfl, (lit1 wr k _ (by omega) hb.size).drew, (hb.alloc hb.size _).drew⟩
      · have hne : ((dictN k : Int) == (n : Int)) = false := by simp; omega
        have hno' : NoDict n (k + 1) := by
          intro j hj
          by_cases e : j = k
          · subst e; exact hd
          · exact hno j (by omega)
        generalize dictN k = D at *
        have HNO := Lib.hid hno'
        clear hno hd hno'
        go_wp2_with fail
        refine wp_region_held_drew (S := fun w' => w'.cell? ⟨w.heap.size, 0, none⟩ = some (.int .i64 33) ∧ w'.cell? ⟨w.heap.size, 1, none⟩ = some (.int .u32 (n : Nat))) (by kernel_rfl) ⟨k0, k1⟩ (fun hS => ?_)
        refine wpAnyH_take (i := 0) (oi := { dst := some 13, op := Op.move (Operand.tmp 4), type := 3, pos := "ref.go:82", after := #[], guard := none }) (v := ?vb6) rfl (by kernel_rfl) (by kernel_rfl) (by kernel_rfl) (fun _ _ _ h => h) (Or.inl ⟨by rfl, ?yb6⟩) hS ?_
        case yb6 =>
          intro w hSw
          go_simp; all_goals (with_reducible rfl)
        simp only [Act.put, List.setIfInBounds_toArray, List.set_cons_zero, List.set_cons_succ]
        refine wpAnyH_take (i := 2) (oi := { dst := some 15, op := Op.fieldAddr 33 (Operand.tmp 1) 1, type := 0, pos := "ref.go:82", after := #[], guard := none }) (v := ?vb7) rfl (by kernel_rfl) (by kernel_rfl) (by kernel_rfl) (fun _ _ _ h => h) (Or.inl ⟨by rfl, ?yb7⟩) hS ?_
        case yb7 =>
          intro w hSw
          go_simp; all_goals (with_reducible rfl)
        simp only [Act.put, List.setIfInBounds_toArray, List.set_cons_zero, List.set_cons_succ]
        refine wpAnyH_take (i := 3) (oi := { dst := some 16, op := Op.load 31 (Operand.tmp 15), type := 31, pos := "ref.go:82", after := #[{ on := 2, ground := Ground.data }], guard := none }) (v := ?vb8) rfl (by kernel_rfl) (by kernel_rfl) (by kernel_rfl) (fun _ _ _ h => h) (Or.inl ⟨by rfl, ?yb8⟩) hS ?_
        case yb8 =>
          intro w hSw
          obtain ⟨j0, j1⟩ := hSw
          go_simp; all_goals (with_reducible rfl)
        simp only [Act.put, List.setIfInBounds_toArray, List.set_cons_zero, List.set_cons_succ]
        refine wpAnyH_take (i := 4) (oi := { dst := some 17, op := Op.convert 31 42 (Operand.tmp 16), type := 42, pos := "ref.go:82", after := #[{ on := 3, ground := Ground.data }], guard := none }) (v := ?vb9) rfl (by kernel_rfl) (by kernel_rfl) (by kernel_rfl) (fun _ _ _ h => h) (Or.inl ⟨by rfl, ?yb9⟩) hS ?_
        case yb9 =>
          intro w hSw
          have q2 : IntKind.u64.wrap (n : Int) = (n : Int) := IntWalk.u64_in _ (by omega)
          go_simp; all_goals (with_reducible rfl)
        simp only [Act.put, List.setIfInBounds_toArray, List.set_cons_zero, List.set_cons_succ]
        refine wpAnyH_ready (rs := [1]) (by kernel_rfl) (by simp) ?_
        refine (AllReadyH.cons (o := { dst := some 14, op := Op.call { callee := Callee.value (Operand.func 19), args := #[Operand.tmp 13], argTypes := #[3] }, type := 42, pos := "ref.go:82", after := #[{ on := 0, ground := Ground.data }], guard := none }) rfl (fun K hK => ?_) AllReadyH.nil)
        go_simp
        refine (HD.out _).mono ?_
        rintro e w' ⟨rfl, rfl⟩
        go_wp2_with fail
        refine hK.out _ _ hS (fun _ => ?_)
        clear hK K
        refine wpAnyH_take (i := 5) (oi := { dst := some 18, op := Op.binOp BinOp.eql 42 (Operand.tmp 14) (Operand.tmp 17) 42, type := 4, pos := "ref.go:82", after := #[{ on := 1, ground := Ground.data }, { on := 4, ground := Ground.data }], guard := none }) (v := ?vb10) rfl (by kernel_rfl) (by kernel_rfl) (by kernel_rfl) (fun _ _ _ h => h) (Or.inl ⟨by rfl, ?yb10⟩) hS ?_
        case yb10 =>
          intro w hSw
          go_simp; all_goals (with_reducible rfl)
        simp only [Act.put, List.setIfInBounds_toArray, List.set_cons_zero, List.set_cons_succ]
        refine wpAnyH_done (by kernel_rfl) ?_ _
        go_wp2_with fail
        go_roundw
        case rel => exact ⟨k + 1, by omega, by go_num, HNO.out, k0, k1, hb.drew⟩
        case measure => simp [intOf]; omega
    · obtain rfl : k = 41 := by omega
      have hX := HM.out hno
      subst hX
      go_wp2_with fail
      go_ret2
      exact ⟨rfl, hb⟩

set_option maxRecDepth 100000 in
set_option maxHeartbeats 1000000 in
theorem rbytes_no (id : Int) (n : Nat) (hok : (⟨id, n⟩ : Fil).ok) (h33 : id ≠ 33) (hf : fitB ⟨id, n⟩ = false) (w : World) :
    Calls Try.prog 13 #[.agg #[.int .i64 id, .int .u32 (n : Nat)]] w (NoneT w (.bool false)) := by
  have hb := below_box w
  have HF := Lib.hid (fits_any ⟨id, n⟩ hok)
  rw [hf] at HF
  simp only [Fil.agg] at HF
  have hd : (id == 33) = false := by simp [h33]
  clear h33 hf
  go_enter Try.func13, Try.ntmps13
  go_wp2_with fail
  refine (HF.out _).mono ?_
  rintro e w' ⟨rfl, hb2⟩
  go_wp2_with fail
  go_ret2
  exact ⟨rfl, (hb _).trans (hb2.mono (by simp))⟩
set_option maxRecDepth 100000 in
set_option maxHeartbeats 1000000 in
theorem rbytes_3 (n : Nat) (h1 : 1 ≤ n) (h2 : n ≤ 256) (w : World) :
    Calls Try.prog 13 #[.agg #[.int .i64 3, .int .u32 (n : Nat)]] w (GivesT w [UInt8.ofNat (n - 1)] (.bool true)) := by
  have hb := below_box w
  have HF := Lib.hid (fits_any ⟨3, n⟩ ⟨by simp, by simp, by simp; omega⟩)
  have hfit : fitB ⟨3, n⟩ = true := by unfold fitB; simp; omega
  rw [hfit] at HF
  simp only [Fil.agg] at HF
  clear hfit
  go_enter Try.func13, Try.ntmps13
  go_wp2_with fail
  refine (HF.out _).mono ?_
  rintro e w1 ⟨rfl, hb2⟩
  have k0 := (hb2.cell (p := ⟨w.heap.size, 0, none⟩) (by simp)).trans (box_cells w (.int .i64 3) (.int .u32 (n : Nat)) 33).1
  have k1 := (hb2.cell (p := ⟨w.heap.size, 1, none⟩) (by simp)).trans (box_cells w (.int .i64 3) (.int .u32 (n : Nat)) 33).2
  have g2 := (hb (.cells #[.int .i64 3, .int .u32 (n : Nat)] 33)).trans (hb2.mono (by simp))
  clear hb2
  have e : (n : Int) - 1 = ((n - 1 : Nat) : Int) := by omega
  have e256 : n - 1 < 256 := by omega
  generalize n - 1 = m at *
  go_wp2_with fail
  go_ret2
  exact ⟨_, rfl, lit1 _ _ _ (by omega) g2.size, g2.alloc g2.size _⟩
set_option maxRecDepth 100000 in
set_option maxHeartbeats 1000000 in
theorem rbytes_0 (id : Int) (hok : (⟨id, 0⟩ : Fil).ok) (h33 : id ≠ 33) (h3 : id ≠ 3) (hf : fitB ⟨id, 0⟩ = true) (w : World) :
    Calls Try.prog 13 #[.agg #[.int .i64 id, .int .u32 0]] w (GivesT w [] (.bool true)) := by
  have hb := below_box w
  have HF := Lib.hid (fits_any ⟨id, 0⟩ hok)
  rw [hf] at HF
  simp only [Fil.agg] at HF
  have hd : (id == 33) = false := by simp [h33]
  have hd3 : (id == 3) = false := by simp [h3]
  clear h33 hf h3
  go_enter Try.func13, Try.ntmps13
  go_wp2_with fail
  refine (HF.out _).mono ?_
  rintro e w1 ⟨rfl, hb2⟩
  have k0 := (hb2.cell (p := ⟨w.heap.size, 0, none⟩) (by simp)).trans (box_cells w (.int .i64 id) (.int .u32 0) 33).1
  have k1 := (hb2.cell (p := ⟨w.heap.size, 1, none⟩) (by simp)).trans (box_cells w (.int .i64 id) (.int .u32 0) 33).2
  have g2 := (hb (.cells #[.int .i64 id, .int .u32 0] 33)).trans (hb2.mono (by simp))
  clear hb2
  go_wp2_with fail
  go_ret2
  exact ⟨_, rfl, Own.nil _ _, g2⟩
set_option maxRecDepth 100000 in
set_option maxHeartbeats 1000000 in
theorem rbytes_4 (id : Int) (n : Nat) (hok : (⟨id, n⟩ : Fil).ok) (h33 : id ≠ 33) (h3 : id ≠ 3) (hf : fitB ⟨id, n⟩ = true) (h0 : n ≠ 0) (w : World) :
    Calls Try.prog 13 #[.agg #[.int .i64 id, .int .u32 (n : Nat)]] w (GivesT w (bytesOf true n) (.bool true)) := by
  have hb := below_box w
  have HF := Lib.hid (fits_any ⟨id, n⟩ hok)
  rw [hf] at HF
  simp only [Fil.agg] at HF
  obtain ⟨o1, o2, o3⟩ := hok
  simp only at o1 o2 o3
  have hd : (id == 33) = false := by simp [h33]
  have hd3 : (id == 3) = false := by simp [h3]
  have hn0 : ((n : Int) == 0) = false := by simp [h0]
  clear h33 hf h3
  have e0 : (n : Int) % 256 = ((UInt8.ofNat (n % 256)).toNat : Int) := by rw [of_nat n]; omega
  have e1 : (n : Int) / 256 % 256 = ((UInt8.ofNat (n / 256 % 256)).toNat : Int) := by rw [of_nat (n / 256)]; omega
  have e2 : (n : Int) / 65536 % 256 = ((UInt8.ofNat (n / 65536 % 256)).toNat : Int) := by rw [of_nat (n / 65536)]; omega
  have e3 : (n : Int) / 16777216 % 256 = ((UInt8.ofNat (n / 16777216 % 256)).toNat : Int) := by rw [of_nat (n / 16777216)]; omega
  have e3' : (n : Int) / 16777216 = ((UInt8.ofNat (n / 16777216 % 256)).toNat : Int) := by rw [of_nat (n / 16777216)]; omega
  have hbo : bytesOf true n = [UInt8.ofNat (n % 256), UInt8.ofNat (n / 256 % 256), UInt8.ofNat (n / 65536 % 256), UInt8.ofNat (n / 16777216 % 256)] := rfl
  rw [hbo]
  generalize UInt8.ofNat (n % 256) = y0 at *
  generalize UInt8.ofNat (n / 256 % 256) = y1 at *
  generalize UInt8.ofNat (n / 65536 % 256) = y2 at *
  generalize UInt8.ofNat (n / 16777216 % 256) = y3 at *
  clear hbo
  go_enter Try.func13, Try.ntmps13
  go_wp2_with fail
  refine (HF.out _).mono ?_
  rintro e w1 ⟨rfl, hb2⟩
  have k0 := (hb2.cell (p := ⟨w.heap.size, 0, none⟩) (by simp)).trans (box_cells w (.int .i64 id) (.int .u32 (n : Nat)) 33).1
  have k1 := (hb2.cell (p := ⟨w.heap.size, 1, none⟩) (by simp)).trans (box_cells w (.int .i64 id) (.int .u32 (n : Nat)) 33).2
  have g2 := (hb (.cells #[.int .i64 id, .int .u32 (n : Nat)] 33)).trans (hb2.mono (by simp))
  clear hb2
  go_wp2_with fail
  go_ret2
  exact ⟨_, rfl, lit4 _ _ _ _ _ _ g2.size, g2.alloc g2.size _⟩
theorem rbytes_any (f : Fil) (hok : f.ok) (w : World) : Calls Try.prog 13 #[f.agg] w (OutO w (.bool true) (.bool false) (bytesL f)) := by
  obtain ⟨id, n⟩ := f
  have hn := hok.2.2
  simp only at hn
  by_cases h33 : id = 33
  · subst h33; exact rbytes_33 n hn w
  · unfold bytesL
    simp only
    rw [if_neg h33]
    by_cases hf : fitB ⟨id, n⟩ = true
    · rw [if_pos hf]
      by_cases h3 : id = 3
      · subst h3
        rw [if_pos rfl]
        rcases fit_id _ hf with ⟨_, g1, g2⟩ | ⟨e, _, _⟩
        · exact rbytes_3 n g1 g2 w
        · exact absurd rfl e
      · rw [if_neg h3]
        by_cases h0 : n = 0
        · subst h0; rw [if_pos rfl]; exact rbytes_0 id hok h33 h3 hf w
        · rw [if_neg h0]; exact rbytes_4 id n hok h33 h3 hf h0 w
    · rw [if_neg hf]; exact rbytes_no id n hok h33 (by simpa using hf) w
end Go.Proofs.Ytflklbnebljnmaa
