/- The contracts of the laws VliPuts and VliGets. -/
import Derived.Test.YthnmhlledmmahaaVliKnows
namespace Go.Proofs.Ythnmhlledmmahaa
open Go.RowKit

theorem get_put (n : Nat) (more : List UInt8) (h : n < 128 ^ 9) : Vl.get (Vl.put 9 n ++ more) = (n, (Vl.put 9 n).length, 0) := by
  have e : Vl.put 9 n = Vl.put 8 n := by
    have key : ∀ (f m : Nat), m < 128 ^ (f + 1) → Vl.put (f + 1) m = Vl.put f m := by
      intro f
      induction f with
      | zero => intro m hm; rw [Vl.put_small (by simpa using hm), Vl.put_small (by simpa using hm)]
      | succ f ih =>
        intro m hm
        by_cases hs : m < 128
        · rw [Vl.put_small hs, Vl.put_small hs]
        · rw [Vl.put_big hs, Vl.put_big hs, ih (m / 128) (by rw [Nat.div_lt_iff_lt_mul (by omega)]; rw [Nat.pow_succ] at hm; exact hm)]
    exact key 8 n h
  have := Vl.go_put (Vl.put 9 n ++ more) more 8 n 0 9 (by rw [e]; rfl) h (by omega) (by omega)
  unfold Vl.get
  rw [this, e]
  simp [Vl.num]

set_option maxRecDepth 100000 in
set_option maxHeartbeats 1000000 in
theorem puts_law (nv : BitVec 64) (A : Option Addr) (l : List UInt8) (c : Nat) (w : World) (hB : Bytes w A l) (_hc : l.length ≤ c) (_hm : c ≤ 9223372036854775807) :
    Calls Try.prog 3 #[.int .u64 nv.toNat, .slice A l.length c] w (Holds w) := by
  have hn64 := nv.isLt
  generalize nv.toNat = n at *
  by_cases h : 50 < l.length
  · generalize l.length = L at *
    have h' : (50 : Int) < L := by omega
    go_enter Try.func3, Try.ntmps3
    go_wp2_with fail
    refine (vknows_any _).mono ?_
    rintro e w' ⟨rfl, hb⟩
    go_wp2_with fail
    go_ret
    exact ⟨rfl, hb⟩
  have h' : ¬ (50 : Int) < (l.length : Int) := by omega
  have hl50 : l.length ≤ 50 := by omega
  by_cases hbig : 9223372036854775807 < n
  · have hbi : (9223372036854775807 : Int) < (n : Int) := by omega
    have HP := Lib.hid (put_over n w hbig)
    generalize l.length = L at *
    go_enter Try.func3, Try.ntmps3
    go_wp2_with fail
    refine HP.out.mono ?_
    rintro e w' ⟨rfl, rfl⟩
    go_wp2_with fail
    refine (vknows_any _).mono ?_
    rintro e w' ⟨rfl, hb⟩
    go_wp2_with fail
    go_ret
    exact ⟨rfl, hb⟩
  have hbi : ¬ (9223372036854775807 : Int) < (n : Int) := by omega
  have h9 : n < 128 ^ 9 := by
    have : (128 : Nat) ^ 9 = 9223372036854775808 := by decide
    omega
  have HP := Lib.hid (put_any n w (by omega))
  have HRP := Lib.hid (fun w => rput_any 9 n w (by omega) (Nat.lt_of_lt_of_le h9 (Nat.pow_le_pow_right (by omega) (by omega))) hn64)
  have HGP := Lib.hid (get_put n l h9)
  have hpl := (Vl.put_length 9 n).2
  have hpl1 := (Vl.put_length 9 n).1
  generalize Vl.put 9 n = r at *
  have HSL := Lib.hid (show Value.slice A l.length c = .slice A l.length c from rfl)
  go_enter Try.func3, Try.ntmps3
  go_wp2_with fail
  refine HP.out.mono ?_
  rintro e w1 ⟨v, rfl, hO, hb1⟩
  obtain ⟨Ab, cb, rfl, hcb, hmb, hBb1⟩ := hO.read
  have hoe : Own w1.heap.size (w1.alloc (.cells #[] 5)) (.slice (some ⟨w1.heap.size, 0, none⟩) 0 0) [] := Own.lit w1 [] (Nat.le_refl _) (by simp)
  have hb0 : Below w1.heap.size w1 (w1.alloc (.cells #[] 5)) := (Below.refl _ _).alloc (Nat.le_refl _) _
  have hs0 : w1.heap.size ≤ (w1.alloc (.cells #[] 5)).heap.size := hb0.size
  have hfit : ([] : List UInt8).length + r.length ≤ 140737488355328 := by simp; omega
  have hfit2 : ([] ++ r : List UInt8).length + l.length ≤ 140737488355328 := by simp; omega
  have hBl1 := hB.below hb1
  go_wp2_with (first
    | (at_builtin; refine wpList_append_bytes rfl (.tmp 32) (.tmp 33) rfl w1.heap.size _ _ [] rfl hoe Ab r cb rfl (hBb1.below hb0) hfit hs0 ?_; intro v2 w4 ho4 hg4; have hb4 : Below w1.heap.size w1 w4 := below_grown hb0 hg4 hs0 (fun g' hg' => (hoe.from_base g' hg').1))
    | (at_builtin; refine wpList_append_bytes rfl (.tmp 34) (.tmp 35) rfl w1.heap.size _ _ _ rfl ho4 A l c rfl (hBl1.below hb4) hfit2 hb4.size ?_; intro v3 w5 ho5 hg5; have hb5 : Below w1.heap.size w1 w5 := below_grown hb4 hg5 hb4.size (fun g' hg' => (ho4.from_base g' hg').1); rw [List.nil_append] at ho5; obtain ⟨A5, c5, rfl, hc5, hm5, hB5⟩ := ho5.read))
  have HG := Lib.hid (get_any A5 (r ++ l) c5 w5 hB5 (by simp; omega))
  rw [HGP.out] at HG
  rw [← List.length_append] at *
  refine HG.out.mono ?_
  rintro e wr ⟨rfl, rfl⟩
  have hbel : Below w.heap.size w w5 := hb1.trans (hb5.mono hb1.size)
  have hBb := hBb1.below hb5
  have hdr : Below w5.heap.size w5 w5.drew := (Below.refl _ _).drew
  clear hoe hb0 hs0 hfit hfit2 hBl1 ho4 hg4 hb4 hO hBb1 hg5 ho5 hB5
  generalize w5 = wr at *
  go_wp2_with fail
  refine wp_region_held_drew (S := fun w' => Below wr.heap.size wr w') (by kernel_rfl) hdr (fun hS => ?_)
  refine wpAnyH_take (i := 0) (oi := { dst := some 41, op := Op.move (Operand.tmp 5), type := 23, pos := "law.go:27", after := #[], guard := none }) (v := ?vp1) rfl (by kernel_rfl) (by kernel_rfl) (by kernel_rfl) (fun _ _ _ h => h) (Or.inl ⟨by rfl, ?yp1⟩) hS ?_
  case yp1 =>
    intro w hSw
    go_simp; all_goals (with_reducible rfl)
  simp only [Act.put, List.setIfInBounds_toArray, List.set_cons_zero, List.set_cons_succ]
  refine wpAnyH_take (i := 1) (oi := { dst := some 42, op := Op.convert 23 9 (Operand.tmp 41), type := 9, pos := "law.go:27", after := #[{ on := 0, ground := Ground.data }], guard := none }) (v := ?vp2) rfl (by kernel_rfl) (by kernel_rfl) (by kernel_rfl) (fun _ _ _ h => h) (Or.inl ⟨by rfl, ?yp2⟩) hS ?_
  case yp2 =>
    intro w hSw
    have k1 := run_str (hBb.below hSw) cb
    go_simp; all_goals (with_reducible rfl)
  simp only [Act.put, List.setIfInBounds_toArray, List.set_cons_zero, List.set_cons_succ]
  refine wpAnyH_take (i := 2) (oi := { dst := some 43, op := Op.move (Operand.tmp 0), type := 22, pos := "law.go:27", after := #[], guard := none }) (v := ?vp3) rfl (by kernel_rfl) (by kernel_rfl) (by kernel_rfl) (fun _ _ _ h => h) (Or.inl ⟨by rfl, ?yp3⟩) hS ?_
  case yp3 =>
    intro w hSw
    go_simp; all_goals (with_reducible rfl)
  simp only [Act.put, List.setIfInBounds_toArray, List.set_cons_zero, List.set_cons_succ]
  refine wpAnyH_ready (rs := [3]) (by kernel_rfl) (by simp) ?_
  refine (AllReadyH.cons (o := { dst := some 44, op := Op.call { callee := Callee.value (Operand.func 8), args := #[Operand.tmp 43], argTypes := #[22] }, type := 23, pos := "law.go:27", after := #[{ on := 2, ground := Ground.data }], guard := none }) rfl (fun K hK => ?_) AllReadyH.nil)
  go_simp
  refine (HRP.out _).mono ?_
  rintro e w6 ⟨v6, rfl, hO6, hb6⟩
  obtain ⟨A6, c6, rfl, _, _, hB6⟩ := hO6.read
  have g6 := below_after hdr hb6
  have k6 := run_str hB6 c6
  go_wp2_with fail
  refine hK.out _ _ g6 (fun _ => ?_)
  clear hK K
  refine wpAnyH_ready (rs := [4]) (by kernel_rfl) (by simp) ?_
  refine (AllReadyH.cons (o := { dst := some 45, op := Op.convert 23 9 (Operand.tmp 44), type := 9, pos := "law.go:27", after := #[{ on := 3, ground := Ground.data }], guard := none }) rfl (fun K hK => ?_) AllReadyH.nil)
  go_simp
  refine hK.out _ _ g6 (fun _ => ?_)
  clear hK K
  refine wpAnyH_take (i := 5) (oi := { dst := some 46, op := Op.binOp BinOp.eql 9 (Operand.tmp 42) (Operand.tmp 45) 9, type := 4, pos := "law.go:27", after := #[{ on := 1, ground := Ground.data }, { on := 4, ground := Ground.data }], guard := none }) (v := ?vp4) rfl (by kernel_rfl) (by kernel_rfl) (by kernel_rfl) (fun _ _ _ h => h) (Or.inl ⟨by rfl, ?yp4⟩) g6 ?_
  case yp4 =>
    intro w hSw
    go_simp; all_goals (with_reducible rfl)
  simp only [Act.put, List.setIfInBounds_toArray, List.set_cons_zero, List.set_cons_succ]
  refine wpAnyH_take (i := 6) (oi := { dst := some 47, op := Op.move (Operand.tmp 46), type := 4, pos := "law.go:27", after := #[{ on := 5, ground := Ground.data }, { on := 3, ground := Ground.chain }], guard := none }) (v := ?vp5) rfl (by kernel_rfl) (by kernel_rfl) (by kernel_rfl) (fun _ _ _ h => h) (Or.inl ⟨by rfl, ?yp5⟩) g6 ?_
  case yp5 =>
    intro w hSw
    go_simp; all_goals (with_reducible rfl)
  simp only [Act.put, List.setIfInBounds_toArray, List.set_cons_zero, List.set_cons_succ]
  refine wpAnyH_take (i := 7) (oi := { dst := some 48, op := Op.move (Operand.tmp 6), type := 25, pos := "law.go:27", after := #[{ on := 6, ground := Ground.guard }], guard := some (6, true) }) (v := ?vp6) rfl (by kernel_rfl) (by kernel_rfl) (by kernel_rfl) (fun _ _ _ h => h) (Or.inl ⟨by rfl, ?yp6⟩) g6 ?_
  case yp6 =>
    intro w hSw
    go_simp; all_goals (with_reducible rfl)
  simp only [Act.put, List.setIfInBounds_toArray, List.set_cons_zero, List.set_cons_succ]
  refine wpAnyH_take (i := 8) (oi := { dst := some 49, op := Op.binOp BinOp.eql 25 (Operand.tmp 48) (Operand.const (Value.int IntKind.i64 0)) 25, type := 4, pos := "law.go:27", after := #[{ on := 7, ground := Ground.data }, { on := 6, ground := Ground.guard }], guard := some (6, true) }) (v := ?vp7) rfl (by kernel_rfl) (by kernel_rfl) (by kernel_rfl) (fun _ _ _ h => h) (Or.inl ⟨by rfl, ?yp7⟩) g6 ?_
  case yp7 =>
    intro w hSw
    go_simp; all_goals (with_reducible rfl)
  simp only [Act.put, List.setIfInBounds_toArray, List.set_cons_zero, List.set_cons_succ]
  refine wpAnyH_take (i := 9) (oi := { dst := some 50, op := Op.pick (Operand.tmp 47) (Operand.tmp 49) (Operand.const (Value.bool false)), type := 4, pos := "law.go:27", after := #[{ on := 6, ground := Ground.data }, { on := 8, ground := Ground.data }], guard := none }) (v := ?vp8) rfl (by kernel_rfl) (by kernel_rfl) (by kernel_rfl) (fun _ _ _ h => h) (Or.inl ⟨by rfl, ?yp8⟩) g6 ?_
  case yp8 =>
    intro w hSw
    go_simp; all_goals (with_reducible rfl)
  simp only [Act.put, List.setIfInBounds_toArray, List.set_cons_zero, List.set_cons_succ]
  refine wpAnyH_take (i := 10) (oi := { dst := some 51, op := Op.move (Operand.tmp 50), type := 4, pos := "law.go:27", after := #[{ on := 9, ground := Ground.data }, { on := 6, ground := Ground.chain }], guard := none }) (v := ?vp9) rfl (by kernel_rfl) (by kernel_rfl) (by kernel_rfl) (fun _ _ _ h => h) (Or.inl ⟨by rfl, ?yp9⟩) g6 ?_
  case yp9 =>
    intro w hSw
    go_simp; all_goals (with_reducible rfl)
  simp only [Act.put, List.setIfInBounds_toArray, List.set_cons_zero, List.set_cons_succ]
  refine wpAnyH_take (i := 11) (oi := { dst := some 52, op := Op.move (Operand.tmp 7), type := 22, pos := "law.go:27", after := #[{ on := 10, ground := Ground.guard }], guard := some (10, true) }) (v := ?vp10) rfl (by kernel_rfl) (by kernel_rfl) (by kernel_rfl) (fun _ _ _ h => h) (Or.inl ⟨by rfl, ?yp10⟩) g6 ?_
  case yp10 =>
    intro w hSw
    go_simp; all_goals (with_reducible rfl)
  simp only [Act.put, List.setIfInBounds_toArray, List.set_cons_zero, List.set_cons_succ]
  refine wpAnyH_take (i := 12) (oi := { dst := some 53, op := Op.move (Operand.tmp 0), type := 22, pos := "law.go:27", after := #[{ on := 10, ground := Ground.guard }], guard := some (10, true) }) (v := ?vp11) rfl (by kernel_rfl) (by kernel_rfl) (by kernel_rfl) (fun _ _ _ h => h) (Or.inl ⟨by rfl, ?yp11⟩) g6 ?_
  case yp11 =>
    intro w hSw
    go_simp; all_goals (with_reducible rfl)
  simp only [Act.put, List.setIfInBounds_toArray, List.set_cons_zero, List.set_cons_succ]
  refine wpAnyH_take (i := 13) (oi := { dst := some 54, op := Op.binOp BinOp.eql 22 (Operand.tmp 52) (Operand.tmp 53) 22, type := 4, pos := "law.go:27", after := #[{ on := 11, ground := Ground.data }, { on := 12, ground := Ground.data }, { on := 10, ground := Ground.guard }], guard := some (10, true) }) (v := ?vp12) rfl (by kernel_rfl) (by kernel_rfl) (by kernel_rfl) (fun _ _ _ h => h) (Or.inl ⟨by rfl, ?yp12⟩) g6 ?_
  case yp12 =>
    intro w hSw
    go_simp; all_goals (with_reducible rfl)
  simp only [Act.put, List.setIfInBounds_toArray, List.set_cons_zero, List.set_cons_succ]
  refine wpAnyH_take (i := 14) (oi := { dst := some 55, op := Op.pick (Operand.tmp 51) (Operand.tmp 54) (Operand.const (Value.bool false)), type := 4, pos := "law.go:27", after := #[{ on := 10, ground := Ground.data }, { on := 13, ground := Ground.data }], guard := none }) (v := ?vp13) rfl (by kernel_rfl) (by kernel_rfl) (by kernel_rfl) (fun _ _ _ h => h) (Or.inl ⟨by rfl, ?yp13⟩) g6 ?_
  case yp13 =>
    intro w hSw
    go_simp; all_goals (with_reducible rfl)
  simp only [Act.put, List.setIfInBounds_toArray, List.set_cons_zero, List.set_cons_succ]
  refine wpAnyH_take (i := 15) (oi := { dst := some 56, op := Op.move (Operand.tmp 55), type := 4, pos := "law.go:27", after := #[{ on := 14, ground := Ground.data }, { on := 10, ground := Ground.chain }], guard := none }) (v := ?vp14) rfl (by kernel_rfl) (by kernel_rfl) (by kernel_rfl) (fun _ _ _ h => h) (Or.inl ⟨by rfl, ?yp14⟩) g6 ?_
  case yp14 =>
    intro w hSw
    go_simp; all_goals (with_reducible rfl)
  simp only [Act.put, List.setIfInBounds_toArray, List.set_cons_zero, List.set_cons_succ]
  refine wpAnyH_take (i := 16) (oi := { dst := some 57, op := Op.move (Operand.tmp 8), type := 3, pos := "law.go:27", after := #[{ on := 15, ground := Ground.guard }], guard := some (15, true) }) (v := ?vp15) rfl (by kernel_rfl) (by kernel_rfl) (by kernel_rfl) (fun _ _ _ h => h) (Or.inl ⟨by rfl, ?yp15⟩) g6 ?_
  case yp15 =>
    intro w hSw
    go_simp; all_goals (with_reducible rfl)
  simp only [Act.put, List.setIfInBounds_toArray, List.set_cons_zero, List.set_cons_succ]
  refine wpAnyH_take (i := 17) (oi := { dst := some 58, op := Op.move (Operand.tmp 5), type := 23, pos := "law.go:27", after := #[{ on := 15, ground := Ground.guard }], guard := some (15, true) }) (v := ?vp16) rfl (by kernel_rfl) (by kernel_rfl) (by kernel_rfl) (fun _ _ _ h => h) (Or.inl ⟨by rfl, ?yp16⟩) g6 ?_
  case yp16 =>
    intro w hSw
    go_simp; all_goals (with_reducible rfl)
  simp only [Act.put, List.setIfInBounds_toArray, List.set_cons_zero, List.set_cons_succ]
  refine wpAnyH_take (i := 18) (oi := { dst := some 59, op := Op.call { callee := Callee.builtin Builtin.len, args := #[Operand.tmp 58], argTypes := #[23] }, type := 3, pos := "law.go:27", after := #[{ on := 17, ground := Ground.data }, { on := 15, ground := Ground.guard }], guard := some (15, true) }) (v := ?vp17) rfl (by kernel_rfl) (by kernel_rfl) (by kernel_rfl) (fun _ _ _ h => h) (Or.inl ⟨by rfl, ?yp17⟩) g6 ?_
  case yp17 =>
    intro w hSw
    go_simp; all_goals (with_reducible rfl)
  simp only [Act.put, List.setIfInBounds_toArray, List.set_cons_zero, List.set_cons_succ]
  refine wpAnyH_take (i := 19) (oi := { dst := some 60, op := Op.binOp BinOp.eql 3 (Operand.tmp 57) (Operand.tmp 59) 3, type := 4, pos := "law.go:27", after := #[{ on := 16, ground := Ground.data }, { on := 18, ground := Ground.data }, { on := 15, ground := Ground.guard }], guard := some (15, true) }) (v := ?vp18) rfl (by kernel_rfl) (by kernel_rfl) (by kernel_rfl) (fun _ _ _ h => h) (Or.inl ⟨by rfl, ?yp18⟩) g6 ?_
  case yp18 =>
    intro w hSw
    go_simp; all_goals (with_reducible rfl)
  simp only [Act.put, List.setIfInBounds_toArray, List.set_cons_zero, List.set_cons_succ]
  refine wpAnyH_take (i := 20) (oi := { dst := some 61, op := Op.pick (Operand.tmp 56) (Operand.tmp 60) (Operand.const (Value.bool false)), type := 4, pos := "law.go:27", after := #[{ on := 15, ground := Ground.data }, { on := 19, ground := Ground.data }], guard := none }) (v := ?vp19) rfl (by kernel_rfl) (by kernel_rfl) (by kernel_rfl) (fun _ _ _ h => h) (Or.inl ⟨by rfl, ?yp19⟩) g6 ?_
  case yp19 =>
    intro w hSw
    go_simp; all_goals (with_reducible rfl)
  simp only [Act.put, List.setIfInBounds_toArray, List.set_cons_zero, List.set_cons_succ]
  refine wpAnyH_take (i := 21) (oi := { dst := some 62, op := Op.move (Operand.tmp 61), type := 4, pos := "law.go:27", after := #[{ on := 20, ground := Ground.data }, { on := 15, ground := Ground.chain }], guard := none }) (v := ?vp20) rfl (by kernel_rfl) (by kernel_rfl) (by kernel_rfl) (fun _ _ _ h => h) (Or.inl ⟨by rfl, ?yp20⟩) g6 ?_
  case yp20 =>
    intro w hSw
    go_simp; all_goals (with_reducible rfl)
  simp only [Act.put, List.setIfInBounds_toArray, List.set_cons_zero, List.set_cons_succ]
  refine wpAnyH_take (i := 22) (oi := { dst := some 63, op := Op.move (Operand.tmp 9), type := 25, pos := "law.go:27", after := #[{ on := 21, ground := Ground.guard }], guard := some (21, true) }) (v := ?vp21) rfl (by kernel_rfl) (by kernel_rfl) (by kernel_rfl) (fun _ _ _ h => h) (Or.inl ⟨by rfl, ?yp21⟩) g6 ?_
  case yp21 =>
    intro w hSw
    go_simp; all_goals (with_reducible rfl)
  simp only [Act.put, List.setIfInBounds_toArray, List.set_cons_zero, List.set_cons_succ]
  refine wpAnyH_take (i := 23) (oi := { dst := some 64, op := Op.binOp BinOp.eql 25 (Operand.tmp 63) (Operand.const (Value.int IntKind.i64 0)) 25, type := 4, pos := "law.go:27", after := #[{ on := 22, ground := Ground.data }, { on := 21, ground := Ground.guard }], guard := some (21, true) }) (v := ?vp22) rfl (by kernel_rfl) (by kernel_rfl) (by kernel_rfl) (fun _ _ _ h => h) (Or.inl ⟨by rfl, ?yp22⟩) g6 ?_
  case yp22 =>
    intro w hSw
    go_simp; all_goals (with_reducible rfl)
  simp only [Act.put, List.setIfInBounds_toArray, List.set_cons_zero, List.set_cons_succ]
  refine wpAnyH_take (i := 24) (oi := { dst := some 65, op := Op.pick (Operand.tmp 62) (Operand.tmp 64) (Operand.const (Value.bool false)), type := 4, pos := "law.go:27", after := #[{ on := 21, ground := Ground.data }, { on := 23, ground := Ground.data }], guard := none }) (v := ?vp23) rfl (by kernel_rfl) (by kernel_rfl) (by kernel_rfl) (fun _ _ _ h => h) (Or.inl ⟨by rfl, ?yp23⟩) g6 ?_
  case yp23 =>
    intro w hSw
    go_simp; all_goals (with_reducible rfl)
  simp only [Act.put, List.setIfInBounds_toArray, List.set_cons_zero, List.set_cons_succ]
  refine wpAnyH_take (i := 25) (oi := { dst := some 66, op := Op.move (Operand.tmp 65), type := 4, pos := "law.go:27", after := #[{ on := 24, ground := Ground.data }, { on := 21, ground := Ground.chain }], guard := none }) (v := ?vp24) rfl (by kernel_rfl) (by kernel_rfl) (by kernel_rfl) (fun _ _ _ h => h) (Or.inl ⟨by rfl, ?yp24⟩) g6 ?_
  case yp24 =>
    intro w hSw
    go_simp; all_goals (with_reducible rfl)
  simp only [Act.put, List.setIfInBounds_toArray, List.set_cons_zero, List.set_cons_succ]
  refine wpAnyH_ready (rs := [26]) (by kernel_rfl) (by simp) ?_
  refine (AllReadyH.cons (o := { dst := some 67, op := Op.call { callee := Callee.value (Operand.func 5), args := #[], argTypes := #[] }, type := 4, pos := "law.go:27", after := #[{ on := 25, ground := Ground.chain }, { on := 25, ground := Ground.guard }], guard := some (25, true) }) rfl (fun K hK => ?_) AllReadyH.nil)
  go_simp
  refine (vknows_any _).mono ?_
  rintro e w7 ⟨rfl, hb7⟩
  have g7 := below_after g6 hb7
  go_wp2_with fail
  refine hK.out _ _ g7 (fun _ => ?_)
  clear hK K
  refine wpAnyH_take (i := 27) (oi := { dst := some 68, op := Op.pick (Operand.tmp 66) (Operand.tmp 67) (Operand.const (Value.bool false)), type := 4, pos := "law.go:27", after := #[{ on := 25, ground := Ground.data }, { on := 26, ground := Ground.data }], guard := none }) (v := ?vp25) rfl (by kernel_rfl) (by kernel_rfl) (by kernel_rfl) (fun _ _ _ h => h) (Or.inl ⟨by rfl, ?yp25⟩) g7 ?_
  case yp25 =>
    intro w hSw
    go_simp; all_goals (with_reducible rfl)
  simp only [Act.put, List.setIfInBounds_toArray, List.set_cons_zero, List.set_cons_succ]
  refine wpAnyH_take (i := 28) (oi := { dst := some 4, op := Op.assign (Operand.tmp 68), type := 4, pos := "law.go:27", after := #[{ on := 27, ground := Ground.data }, { on := 26, ground := Ground.chain }, { on := 0, ground := Ground.phase }, { on := 1, ground := Ground.phase }, { on := 2, ground := Ground.phase }, { on := 3, ground := Ground.phase }, { on := 4, ground := Ground.phase }, { on := 5, ground := Ground.phase }, { on := 6, ground := Ground.phase }, { on := 7, ground := Ground.phase }, { on := 8, ground := Ground.phase }, { on := 9, ground := Ground.phase }, { on := 10, ground := Ground.phase }, { on := 11, ground := Ground.phase }, { on := 12, ground := Ground.phase }, { on := 13, ground := Ground.phase }, { on := 14, ground := Ground.phase }, { on := 15, ground := Ground.phase }, { on := 16, ground := Ground.phase }, { on := 17, ground := Ground.phase }, { on := 18, ground := Ground.phase }, { on := 19, ground := Ground.phase }, { on := 20, ground := Ground.phase }, { on := 21, ground := Ground.phase }, { on := 22, ground := Ground.phase }, { on := 23, ground := Ground.phase }, { on := 24, ground := Ground.phase }, { on := 25, ground := Ground.phase }, { on := 26, ground := Ground.phase }, { on := 27, ground := Ground.phase }], guard := none }) (v := ?vp26) rfl (by kernel_rfl) (by kernel_rfl) (by kernel_rfl) (fun _ _ _ h => h) (Or.inl ⟨by rfl, ?yp26⟩) g7 ?_
  case yp26 =>
    intro w hSw
    go_simp; all_goals (with_reducible rfl)
  simp only [Act.put, List.setIfInBounds_toArray, List.set_cons_zero, List.set_cons_succ]
  refine wpAnyH_done (by kernel_rfl) ?_ _
  go_wp2_with fail
  go_ret
  exact ⟨rfl, hbel.trans (g7.mono hbel.size)⟩

set_option maxRecDepth 100000 in
set_option maxHeartbeats 1000000 in
theorem gets_law (A : Option Addr) (l : List UInt8) (c : Nat) (w : World) (hB : Bytes w A l) (hc : l.length ≤ c) (_hm : c ≤ 9223372036854775807) :
    Calls Try.prog 4 #[.slice A l.length c] w (Holds w) := by
  by_cases h : 50 < l.length
  · generalize l.length = L at *
    have h' : (50 : Int) < L := by omega
    go_enter Try.func4, Try.ntmps4
    go_wp2_with fail
    refine (vknows_any _).mono ?_
    rintro e w' ⟨rfl, hb⟩
    go_wp2_with fail
    go_ret
    exact ⟨rfl, hb⟩
  have h' : ¬ (50 : Int) < (l.length : Int) := by omega
  have HG := Lib.hid (get_any A l c w hB (by omega))
  have HR := Lib.hid (rget_any A l c w hB (by omega))
  generalize hr : Vl.get l = r at *
  obtain ⟨n, k, e0⟩ := r
  by_cases he : e0 = 0
  · subst he
    obtain ⟨m, h1, h2, h3, h4, h5, _⟩ := Vl.put_go l 9 0 n k hr
    have hnm : n = m := by rw [h1]; simp [Vl.num]
    subst hnm
    have h63 : (128 : Nat) ^ 9 = 9223372036854775808 := by decide
    have HP := Lib.hid (fun w => put_any n w (by omega))
    rw [h4] at HP
    have htk : (l.drop 0).take (k - 0) = l.take k := by simp
    rw [htk] at HP
    have hlt : (l.take k).length = k := by simp; omega
    have HTK := Lib.hid hlt
    have hkc : k ≤ c := by omega
    have hkn : n < 9223372036854775808 := by omega
    generalize l.length = L at *
    clear h1 h4 h5 h63 htk hlt hr
    go_enter Try.func4, Try.ntmps4
    go_wp2_with fail
    refine HG.out.mono ?_
    rintro e w' ⟨rfl, rfl⟩
    go_wp2_with fail
    refine HR.out.mono ?_
    rintro e w' ⟨rfl, rfl⟩
    go_wp2_with fail
    refine (HP.out _).mono ?_
    rintro e wr ⟨v, rfl, hO, hbel⟩
    obtain ⟨Ac, cc, rfl, hcc, hmc, hBc⟩ := hO.read
    have hBb := hB.below hbel
    have hdr : Below wr.heap.size wr wr.drew := (Below.refl _ _).drew
    rw [HTK.out]
    go_wp2_with fail
    refine wp_region_held_drew (S := fun w' => Below wr.heap.size wr w') (by kernel_rfl) hdr (fun hS => ?_)
    refine wpAnyH_take (i := 0) (oi := { dst := some 48, op := Op.move (Operand.tmp 9), type := 23, pos := "law.go:44", after := #[], guard := none }) (v := ?vg27) rfl (by kernel_rfl) (by kernel_rfl) (by kernel_rfl) (fun _ _ _ h => h) (Or.inl ⟨by rfl, ?yg27⟩) hS ?_
    case yg27 =>
      intro w hSw
      go_simp; all_goals (with_reducible rfl)
    simp only [Act.put, List.setIfInBounds_toArray, List.set_cons_zero, List.set_cons_succ]
    refine wpAnyH_take (i := 1) (oi := { dst := some 49, op := Op.convert 23 9 (Operand.tmp 48), type := 9, pos := "law.go:44", after := #[{ on := 0, ground := Ground.data }], guard := none }) (v := ?vg28) rfl (by kernel_rfl) (by kernel_rfl) (by kernel_rfl) (fun _ _ _ h => h) (Or.inl ⟨by rfl, ?yg28⟩) hS ?_
    case yg28 =>
      intro w hSw
      have k1 := run_str (hBc.below hSw) cc
      rw [HTK.out] at k1
      go_simp; all_goals (with_reducible rfl)
    simp only [Act.put, List.setIfInBounds_toArray, List.set_cons_zero, List.set_cons_succ]
    refine wpAnyH_take (i := 2) (oi := { dst := some 50, op := Op.move (Operand.tmp 0), type := 23, pos := "law.go:44", after := #[], guard := none }) (v := ?vg29) rfl (by kernel_rfl) (by kernel_rfl) (by kernel_rfl) (fun _ _ _ h => h) (Or.inl ⟨by rfl, ?yg29⟩) hS ?_
    case yg29 =>
      intro w hSw
      go_simp; all_goals (with_reducible rfl)
    simp only [Act.put, List.setIfInBounds_toArray, List.set_cons_zero, List.set_cons_succ]
    refine wpAnyH_take (i := 3) (oi := { dst := some 51, op := Op.move (Operand.tmp 4), type := 3, pos := "law.go:44", after := #[], guard := none }) (v := ?vg30) rfl (by kernel_rfl) (by kernel_rfl) (by kernel_rfl) (fun _ _ _ h => h) (Or.inl ⟨by rfl, ?yg30⟩) hS ?_
    case yg30 =>
      intro w hSw
      go_simp; all_goals (with_reducible rfl)
    simp only [Act.put, List.setIfInBounds_toArray, List.set_cons_zero, List.set_cons_succ]
    refine wpAnyH_take (i := 4) (oi := { dst := some 52, op := Op.slice 23 (Operand.tmp 50) none (some (Operand.tmp 51)) none, type := 23, pos := "law.go:44", after := #[{ on := 2, ground := Ground.data }, { on := 3, ground := Ground.data }], guard := none }) (v := ?vg31) rfl (by kernel_rfl) (by kernel_rfl) (by kernel_rfl) (fun _ _ _ h => h) (Or.inl ⟨by rfl, ?yg31⟩) hS ?_
    case yg31 =>
      intro w hSw
      go_simp; all_goals (with_reducible rfl)
    simp only [Act.put, List.setIfInBounds_toArray, List.set_cons_zero, List.set_cons_succ]
    refine wpAnyH_take (i := 5) (oi := { dst := some 53, op := Op.convert 23 9 (Operand.tmp 52), type := 9, pos := "law.go:44", after := #[{ on := 4, ground := Ground.data }], guard := none }) (v := ?vg32) rfl (by kernel_rfl) (by kernel_rfl) (by kernel_rfl) (fun _ _ _ h => h) (Or.inl ⟨by rfl, ?yg32⟩) hS ?_
    case yg32 =>
      intro w hSw
      have k2 := run_str ((hBb.take k).below hSw) c
      rw [HTK.out] at k2
      go_simp; all_goals (with_reducible rfl)
    simp only [Act.put, List.setIfInBounds_toArray, List.set_cons_zero, List.set_cons_succ]
    refine wpAnyH_take (i := 6) (oi := { dst := some 54, op := Op.binOp BinOp.eql 9 (Operand.tmp 49) (Operand.tmp 53) 9, type := 4, pos := "law.go:44", after := #[{ on := 1, ground := Ground.data }, { on := 5, ground := Ground.data }], guard := none }) (v := ?vg33) rfl (by kernel_rfl) (by kernel_rfl) (by kernel_rfl) (fun _ _ _ h => h) (Or.inl ⟨by rfl, ?yg33⟩) hS ?_
    case yg33 =>
      intro w hSw
      go_simp; all_goals (with_reducible rfl)
    simp only [Act.put, List.setIfInBounds_toArray, List.set_cons_zero, List.set_cons_succ]
    refine wpAnyH_take (i := 7) (oi := { dst := some 55, op := Op.move (Operand.tmp 54), type := 4, pos := "law.go:44", after := #[{ on := 6, ground := Ground.data }], guard := none }) (v := ?vg34) rfl (by kernel_rfl) (by kernel_rfl) (by kernel_rfl) (fun _ _ _ h => h) (Or.inl ⟨by rfl, ?yg34⟩) hS ?_
    case yg34 =>
      intro w hSw
      go_simp; all_goals (with_reducible rfl)
    simp only [Act.put, List.setIfInBounds_toArray, List.set_cons_zero, List.set_cons_succ]
    refine wpAnyH_take (i := 8) (oi := { dst := some 56, op := Op.move (Operand.tmp 10), type := 25, pos := "law.go:44", after := #[{ on := 7, ground := Ground.guard }], guard := some (7, true) }) (v := ?vg35) rfl (by kernel_rfl) (by kernel_rfl) (by kernel_rfl) (fun _ _ _ h => h) (Or.inl ⟨by rfl, ?yg35⟩) hS ?_
    case yg35 =>
      intro w hSw
      go_simp; all_goals (with_reducible rfl)
    simp only [Act.put, List.setIfInBounds_toArray, List.set_cons_zero, List.set_cons_succ]
    refine wpAnyH_take (i := 9) (oi := { dst := some 57, op := Op.binOp BinOp.eql 25 (Operand.tmp 56) (Operand.const (Value.int IntKind.i64 0)) 25, type := 4, pos := "law.go:44", after := #[{ on := 8, ground := Ground.data }, { on := 7, ground := Ground.guard }], guard := some (7, true) }) (v := ?vg36) rfl (by kernel_rfl) (by kernel_rfl) (by kernel_rfl) (fun _ _ _ h => h) (Or.inl ⟨by rfl, ?yg36⟩) hS ?_
    case yg36 =>
      intro w hSw
      go_simp; all_goals (with_reducible rfl)
    simp only [Act.put, List.setIfInBounds_toArray, List.set_cons_zero, List.set_cons_succ]
    refine wpAnyH_take (i := 10) (oi := { dst := some 58, op := Op.pick (Operand.tmp 55) (Operand.tmp 57) (Operand.const (Value.bool false)), type := 4, pos := "law.go:44", after := #[{ on := 7, ground := Ground.data }, { on := 9, ground := Ground.data }], guard := none }) (v := ?vg37) rfl (by kernel_rfl) (by kernel_rfl) (by kernel_rfl) (fun _ _ _ h => h) (Or.inl ⟨by rfl, ?yg37⟩) hS ?_
    case yg37 =>
      intro w hSw
      go_simp; all_goals (with_reducible rfl)
    simp only [Act.put, List.setIfInBounds_toArray, List.set_cons_zero, List.set_cons_succ]
    refine wpAnyH_take (i := 11) (oi := { dst := some 59, op := Op.move (Operand.tmp 58), type := 4, pos := "law.go:44", after := #[{ on := 10, ground := Ground.data }, { on := 7, ground := Ground.chain }], guard := none }) (v := ?vg38) rfl (by kernel_rfl) (by kernel_rfl) (by kernel_rfl) (fun _ _ _ h => h) (Or.inl ⟨by rfl, ?yg38⟩) hS ?_
    case yg38 =>
      intro w hSw
      go_simp; all_goals (with_reducible rfl)
    simp only [Act.put, List.setIfInBounds_toArray, List.set_cons_zero, List.set_cons_succ]
    refine wpAnyH_ready (rs := [12]) (by kernel_rfl) (by simp) ?_
    refine (AllReadyH.cons (o := { dst := some 60, op := Op.call { callee := Callee.value (Operand.func 5), args := #[], argTypes := #[] }, type := 4, pos := "law.go:44", after := #[{ on := 11, ground := Ground.chain }, { on := 11, ground := Ground.guard }], guard := some (11, true) }) rfl (fun K hK => ?_) AllReadyH.nil)
    go_simp
    refine (vknows_any _).mono ?_
    rintro e w7 ⟨rfl, hb7⟩
    have g7 := below_after hdr hb7
    go_wp2_with fail
    refine hK.out _ _ g7 (fun _ => ?_)
    clear hK K
    refine wpAnyH_take (i := 13) (oi := { dst := some 61, op := Op.pick (Operand.tmp 59) (Operand.tmp 60) (Operand.const (Value.bool false)), type := 4, pos := "law.go:44", after := #[{ on := 11, ground := Ground.data }, { on := 12, ground := Ground.data }], guard := none }) (v := ?vg39) rfl (by kernel_rfl) (by kernel_rfl) (by kernel_rfl) (fun _ _ _ h => h) (Or.inl ⟨by rfl, ?yg39⟩) g7 ?_
    case yg39 =>
      intro w hSw
      go_simp; all_goals (with_reducible rfl)
    simp only [Act.put, List.setIfInBounds_toArray, List.set_cons_zero, List.set_cons_succ]
    refine wpAnyH_take (i := 14) (oi := { dst := some 2, op := Op.assign (Operand.tmp 61), type := 4, pos := "law.go:44", after := #[{ on := 13, ground := Ground.data }, { on := 12, ground := Ground.chain }, { on := 0, ground := Ground.phase }, { on := 1, ground := Ground.phase }, { on := 2, ground := Ground.phase }, { on := 3, ground := Ground.phase }, { on := 4, ground := Ground.phase }, { on := 5, ground := Ground.phase }, { on := 6, ground := Ground.phase }, { on := 7, ground := Ground.phase }, { on := 8, ground := Ground.phase }, { on := 9, ground := Ground.phase }, { on := 10, ground := Ground.phase }, { on := 11, ground := Ground.phase }, { on := 12, ground := Ground.phase }, { on := 13, ground := Ground.phase }], guard := none }) (v := ?vg40) rfl (by kernel_rfl) (by kernel_rfl) (by kernel_rfl) (fun _ _ _ h => h) (Or.inl ⟨by rfl, ?yg40⟩) g7 ?_
    case yg40 =>
      intro w hSw
      go_simp; all_goals (with_reducible rfl)
    simp only [Act.put, List.setIfInBounds_toArray, List.set_cons_zero, List.set_cons_succ]
    refine wpAnyH_done (by kernel_rfl) ?_ _
    go_wp2_with fail
    go_ret
    exact ⟨rfl, hbel.trans (g7.mono hbel.size)⟩
  · have he' : ((e0 : Int) == 0) = false := beq_eq_false_iff_ne.2 (by omega)
    generalize l.length = L at *
    clear hr
    go_enter Try.func4, Try.ntmps4
    go_wp2_with fail
    refine HG.out.mono ?_
    rintro e w' ⟨rfl, rfl⟩
    go_wp2_with fail
    refine HR.out.mono ?_
    rintro e w' ⟨rfl, rfl⟩
    go_wp2_with fail
    refine (vknows_any _).mono ?_
    rintro e w' ⟨rfl, hb⟩
    go_wp2_with fail
    go_ret
    exact ⟨rfl, hb⟩
end Go.Proofs.Ythnmhlledmmahaa
