/- The reference: Get. -/
import Derived.Test.YtaggkcgeddoogaaDoorHdRParts
import Derived.Deep.DeepCutAuto
namespace Go.Proofs.YtaggkcgeddoogaaDoor
open Go.RowKit

set_option maxRecDepth 100000 in
set_option maxHeartbeats 2000000 in
theorem rhdget_any (A : Option Addr) (l : List UInt8) (c : Nat) (w : World) (hB : Bytes w A l) (hc : l.length ≤ c) (hm : c ≤ 9223372036854775807) (hl : l.length ≤ 1000000) :
    Calls Tryd.prog 13 #[.slice A l.length c] w (HdGetDone w (getHd l)) := by
  obtain ⟨W0, hW0⟩ : ∃ W0, w.alloc (.cells #[.int .i64 0, .int .i64 0, .slice none 0 0, .int .u32 0] 32) = W0 := ⟨_, rfl⟩
  have hb0 : Below w.heap.size w W0 := by rw [← hW0]; exact (Below.refl _ _).alloc (Nat.le_refl _) _
  have hr0 : Rb4 w.heap.size W0 (.int .i64 0) (.int .i64 0) (.slice none 0 0) (.int .u32 0) := by rw [← hW0]; exact heap_alloc_last _ _
  have hlt0 : w.heap.size < W0.heap.size := by rw [← hW0]; simp
  have HW0 := Lib.hid hW0
  have HB := Lib.hid (fun (wx : World) (h : Below w.heap.size w wx) => hB.below h)
  have HRET := Lib.hid (fun (wx : World) (h : Below w.heap.size w wx) (a b c d : Value) => (show Below w.heap.size w ((((wx.setCell ⟨w.heap.size, 0, none⟩ a).setCell ⟨w.heap.size, 1, none⟩ b).setCell ⟨w.heap.size, 2, none⟩ c).setCell ⟨w.heap.size, 3, none⟩ d) from
    Below.setCell (p := ⟨w.heap.size, 3, none⟩) (Below.setCell (p := ⟨w.heap.size, 2, none⟩) (Below.setCell (p := ⟨w.heap.size, 1, none⟩) (Below.setCell (p := ⟨w.heap.size, 0, none⟩) h (Nat.le_refl _) a) (Nat.le_refl _) b) (Nat.le_refl _) c) (Nat.le_refl _) d))
  have hgdef : getHd l = if (sealM l).2 ≠ 0 then (zeroH, 0, (sealM l).2) else if (l.getD 1 0).toNat / 4 % 16 ≠ 0 then (zeroH, 0, 5)
    else if (partsM (l.getD 1 0).toNat ((sealM l).1.drop 2)).2 ≠ 0 then (zeroH, 0, (partsM (l.getD 1 0).toNat ((sealM l).1.drop 2)).2)
    else ((partsM (l.getD 1 0).toNat ((sealM l).1.drop 2)).1, sizeB l, 0) := rfl
  have hdef : sealM l = if l.length = 0 then ([], 2) else if l.getD 0 0 = 0 then ([], 4) else if l.length < sizeB l then ([], 2)
    else if (sum1 (l.take (sizeB l - 4)) == part l (sizeB l - 4) 4) = false then ([], 4) else (l.take (sizeB l - 4), 0) := rfl
  have HERR : Hid (∀ er, er ≠ 0 → sealM l = ([], er) → getHd l = (zeroH, 0, er)) := Lib.hid (fun er h0 h => by rw [hgdef, h]; exact if_pos h0)
  have HR0 := Lib.hid hr0
  have HB0 := Lib.hid hb0
  obtain ⟨z0, z1, z2, z3⟩ := hr0.cells
  have zf0 := hr0.frozen 0
  have zf1 := hr0.frozen 1
  have zf2 := hr0.frozen 2
  have zf3 := hr0.frozen 3
  clear hW0 hr0 hb0
  by_cases h0 : l.length = 0
  · have HF := Lib.hid (HERR.out 2 (by decide) (by rw [hdef, if_pos h0]))
    have h0i : (l.length : Int) = 0 := by omega
    rw [h0]
    clear hB hdef h0 hgdef
    go_enter Tryd.func13, Tryd.ntmps13
    go_upto_region 1 with fail
    rw [HW0.out]
    clear HW0
    go_wp2_with fail
    obtain ⟨k0, k1, k2, k3⟩ := Rb4.ret HR0.out (.int .i64 0) (.int .i64 0) (.slice none 0 0) (.int .u32 0)
    exact bodyPost_ret (v := .tuple #[.agg #[.int .i64 0, .int .i64 0, .slice none 0 0, .int .u32 0], .int .i64 0, .int .i64 2]) (by simp [results, Tryd.results13, go_sem, k0, k1, k2, k3]) rfl (HdGetDone.err HF.out (HRET.out W0 HB0.out _ _ _ _))
  rw [if_neg h0] at hdef
  obtain ⟨b, off, rfl, hbl, hcell⟩ := hB.addr (by omega)
  have hc0 : w.cell? ⟨b, off + 0, none⟩ = some (B8 (l[0]'(by omega))) := hcell 0 (by omega)
  have hgd : l[0]'(by omega) = l.getD 0 0 := by simp [List.getD, show 0 < l.length by omega]
  rw [hgd, Nat.add_zero] at hc0
  have HAB := Lib.hid (show ∀ a, some (⟨b, off, none⟩ : Addr) = some a → a.block < w.heap.size from fun a e => by injection e with e; subst e; exact hbl)
  have HC0 := Lib.hid (fun (wx : World) (h : Below w.heap.size w wx) => (h.cell (p := ⟨b, off, none⟩) hbl).trans hc0)
  have hlp : (0 : Int) < (l.length : Int) := by omega
  have hln : ¬ (l.length : Int) = 0 := by omega
  by_cases hx : l.getD 0 0 = 0
  · have HF := Lib.hid (HERR.out 4 (by decide) (by rw [hdef, if_pos hx]))
    have j0 := HC0.out W0 HB0.out
    rw [hx] at j0
    have j1 : W0.cell? ⟨b, off, none⟩ = some (.int .u8 0) := j0
    clear j0 hdef hx hgd hcell hc0 hB hgdef
    go_enter Tryd.func13, Tryd.ntmps13
    go_upto_region 1 with fail
    rw [HW0.out]
    clear HW0
    go_wp2_with fail
    obtain ⟨k0, k1, k2, k3⟩ := Rb4.ret HR0.out (.int .i64 0) (.int .i64 0) (.slice none 0 0) (.int .u32 0)
    exact bodyPost_ret (v := .tuple #[.agg #[.int .i64 0, .int .i64 0, .slice none 0 0, .int .u32 0], .int .i64 0, .int .i64 4]) (by simp [results, Tryd.results13, go_sem, k0, k1, k2, k3]) rfl (HdGetDone.err HF.out (HRET.out W0 HB0.out _ _ _ _))
  rw [if_neg hx] at hdef
  have hxt : 0 < (l.getD 0 0).toNat := by
    rcases Nat.eq_zero_or_pos (l.getD 0 0).toNat with h | h
    · exact absurd (UInt8.toNat_inj.1 (by simpa using h)) hx
    · exact h
  have hx256 := (l.getD 0 0).toNat_lt
  have hsz : sizeB l = 4 * (l.getD 0 0).toNat + 4 := rfl
  have j0 : W0.cell? ⟨b, off, none⟩ = some (.int .u8 ((l.getD 0 0).toNat : Nat)) := HC0.out W0 HB0.out
  generalize (l.getD 0 0).toNat = x at *
  obtain ⟨p, hp⟩ : ∃ p, 4 * x = p := ⟨_, rfl⟩
  obtain ⟨t, ht⟩ : ∃ t, p + 4 = t := ⟨_, rfl⟩
  have hpt : sizeB l - 4 = p := by omega
  have hst : sizeB l = t := by omega
  rw [hpt, hst] at hdef
  rw [hst] at hgdef
  have hxi : (0 : Int) < (x : Int) := by omega
  have hxne : ¬ (x : Int) = 0 := by omega
  have hxi2 : (x : Int) < 256 := by omega
  have HXT := Lib.hid (show 4 * (x : Int) + 4 = (t : Int) by omega)
  have hti : (t : Int) ≤ 1024 := by omega
  have hti2 : (8 : Int) ≤ (t : Int) := by omega
  by_cases hlt : l.length < t
  · have HF := Lib.hid (HERR.out 2 (by decide) (by rw [hdef, if_pos hlt]))
    have hlti : (l.length : Int) < (t : Int) := by omega
    clear hdef hx hgd hcell hc0 hB hgdef hlt hpt hst hsz hxt
    go_enter Tryd.func13, Tryd.ntmps13
    go_upto_region 1 with fail
    rw [HW0.out]
    clear HW0
    go_upto_region 6 with fail
    rw [HXT.out]
    go_wp2_with fail
    obtain ⟨k0, k1, k2, k3⟩ := Rb4.ret HR0.out (.int .i64 0) (.int .i64 0) (.slice none 0 0) (.int .u32 0)
    exact bodyPost_ret (v := .tuple #[.agg #[.int .i64 0, .int .i64 0, .slice none 0 0, .int .u32 0], .int .i64 0, .int .i64 2]) (by simp [results, Tryd.results13, go_sem, k0, k1, k2, k3]) rfl (HdGetDone.err HF.out (HRET.out W0 HB0.out _ _ _ _))
  rw [if_neg hlt] at hdef
  have hlti : ¬ (l.length : Int) < (t : Int) := by omega
  have HS1 := Lib.hid (sum1_length (l.take p))
  have HS := Lib.hid (show ∀ w', Bytes w' (some ⟨b, off, none⟩) l → Calls Tryd.prog 30 #[.int .i64 1, .slice (some ⟨b, off, none⟩) p c] w' (OwnDone w' (sum1 (l.take p))) from fun w' h => by
    have := rchk1_any (some ⟨b, off, none⟩) (l.take p) c w' (h.take p) (by rw [List.length_take]; omega)
    rwa [show (l.take p).length = p by rw [List.length_take]; omega] at this)
  have HBP : Hid (Bytes w (some ⟨b, off + p, none⟩) (part l p 4)) := Lib.hid ((Bytes.drop p hB).take 4)
  have HP4 := Lib.hid (part_length l p 4 (by omega))
  have HT4 : Hid (t - p = 4) := Lib.hid (by omega)
  have HW : Hid (IntKind.i64.wrap ((t : Int) - 4) = (p : Int)) := Lib.hid (by rw [IntWalk.i64_in _ (by omega)]; omega)
  have HC := Lib.hid (show (p : Int) ≤ (c : Int) ∧ (t : Int) ≤ (c : Int) ∧ ¬ c = p ∧ p ≤ t by omega)
  have HSEAL := Lib.hid hdef
  have hdr : Below w.heap.size w W0.drew := HB0.out.trans ((below_drew W0).mono HB0.out.size)
  have HD := Lib.hid hgdef
  have HLEN := Lib.hid (And.intro hc (And.intro hm (And.intro hl (And.intro hlt (And.intro hp (And.intro ht hxt))))))
  have hl1 : 1 < l.length := by omega
  have h1d : l[1]'hl1 = l.getD 1 0 := by simp [List.getD, hl1]
  have HC1 := Lib.hid (fun (wx : World) (h : Below w.heap.size w wx) => (h.cell (p := ⟨b, off + 1, none⟩) hbl).trans (hcell 1 hl1))
  rw [h1d] at HC1
  have HTK := Lib.hid (show (l.take p).drop 2 = (l.drop 2).take (p - 2) from List.drop_take ..)
  clear hdef hx hgd hcell hc0 hgdef hlt hpt hst hsz hxt h0 h1d hB hp ht hc hm hl
  go_enter Tryd.func13, Tryd.ntmps13
  go_upto_region 1 with fail
  rw [HW0.out]
  clear HW0
  go_upto_region 6 with fail
  rw [HXT.out]
  clear HXT
  go_upto_region 8 with fail
  obtain ⟨v, hv⟩ : ∃ v, (sum1 (l.take p) == part l p 4) = v := ⟨_, rfl⟩
  rw [hv] at HSEAL
  have HV := Lib.hid hv
  clear hv
  generalize part l p 4 = P2 at *
  generalize sum1 (l.take p) = SM at *
  refine wp_region_held_drew (S := fun w' => Below w.heap.size w w') (by kernel_rfl) hdr (fun hS => ?_)
  refine wpAnyH_take (i := 0) (oi := { dst := some 28, op := Op.move (Operand.tmp 0), type := 26, pos := "ref.go:130", after := #[], guard := none }) (v := ?vrg1) rfl (by kernel_rfl) (by kernel_rfl) (by kernel_rfl) (fun _ _ _ h => h) (Or.inl ⟨by rfl, ?yrg1⟩) hS ?_
  case yrg1 =>
    intro w hSw
    go_simp; all_goals (with_reducible rfl)
  simp only [Act.put, List.setIfInBounds_toArray, List.set_cons_zero, List.set_cons_succ]
  refine wpAnyH_take (i := 1) (oi := { dst := some 29, op := Op.move (Operand.tmp 5), type := 3, pos := "ref.go:130", after := #[], guard := none }) (v := ?vrg2) rfl (by kernel_rfl) (by kernel_rfl) (by kernel_rfl) (fun _ _ _ h => h) (Or.inl ⟨by rfl, ?yrg2⟩) hS ?_
  case yrg2 =>
    intro w hSw
    go_simp; all_goals (with_reducible rfl)
  simp only [Act.put, List.setIfInBounds_toArray, List.set_cons_zero, List.set_cons_succ]
  refine wpAnyH_take (i := 2) (oi := { dst := some 30, op := Op.binOp BinOp.sub 3 (Operand.tmp 29) (Operand.const (Value.int IntKind.i64 4)) 3, type := 3, pos := "ref.go:130", after := #[{ on := 1, ground := Ground.data }], guard := none }) (v := ?vrg3) rfl (by kernel_rfl) (by kernel_rfl) (by kernel_rfl) (fun _ _ _ h => h) (Or.inl ⟨by rfl, ?yrg3⟩) hS ?_
  case yrg3 =>
    intro w hSw
    go_simp; all_goals (with_reducible rfl)
  simp only [Act.put, List.setIfInBounds_toArray, List.set_cons_zero, List.set_cons_succ]
  rw [HW.out]
  refine wpAnyH_take (i := 3) (oi := { dst := some 31, op := Op.slice 26 (Operand.tmp 28) none (some (Operand.tmp 30)) none, type := 26, pos := "ref.go:130", after := #[{ on := 0, ground := Ground.data }, { on := 2, ground := Ground.data }], guard := none }) (v := ?vrg4) rfl (by kernel_rfl) (by kernel_rfl) (by kernel_rfl) (fun _ _ _ h => h) (Or.inl ⟨by rfl, ?yrg4⟩) hS ?_
  case yrg4 =>
    intro w hSw
    obtain ⟨i1, i2, i3, i4⟩ := HC.out
    go_simp; all_goals (with_reducible rfl)
  simp only [Act.put, List.setIfInBounds_toArray, List.set_cons_zero, List.set_cons_succ]
  refine wpAnyH_take (i := 6) (oi := { dst := some 34, op := Op.move (Operand.tmp 0), type := 26, pos := "ref.go:130", after := #[], guard := none }) (v := ?vrg5) rfl (by kernel_rfl) (by kernel_rfl) (by kernel_rfl) (fun _ _ _ h => h) (Or.inl ⟨by rfl, ?yrg5⟩) hS ?_
  case yrg5 =>
    intro w hSw
    go_simp; all_goals (with_reducible rfl)
  simp only [Act.put, List.setIfInBounds_toArray, List.set_cons_zero, List.set_cons_succ]
  refine wpAnyH_take (i := 7) (oi := { dst := some 35, op := Op.move (Operand.tmp 5), type := 3, pos := "ref.go:130", after := #[], guard := none }) (v := ?vrg6) rfl (by kernel_rfl) (by kernel_rfl) (by kernel_rfl) (fun _ _ _ h => h) (Or.inl ⟨by rfl, ?yrg6⟩) hS ?_
  case yrg6 =>
    intro w hSw
    go_simp; all_goals (with_reducible rfl)
  simp only [Act.put, List.setIfInBounds_toArray, List.set_cons_zero, List.set_cons_succ]
  refine wpAnyH_take (i := 8) (oi := { dst := some 36, op := Op.binOp BinOp.sub 3 (Operand.tmp 35) (Operand.const (Value.int IntKind.i64 4)) 3, type := 3, pos := "ref.go:130", after := #[{ on := 7, ground := Ground.data }], guard := none }) (v := ?vrg7) rfl (by kernel_rfl) (by kernel_rfl) (by kernel_rfl) (fun _ _ _ h => h) (Or.inl ⟨by rfl, ?yrg7⟩) hS ?_
  case yrg7 =>
    intro w hSw
    go_simp; all_goals (with_reducible rfl)
  simp only [Act.put, List.setIfInBounds_toArray, List.set_cons_zero, List.set_cons_succ]
  rw [HW.out]
  refine wpAnyH_take (i := 9) (oi := { dst := some 37, op := Op.move (Operand.tmp 5), type := 3, pos := "ref.go:130", after := #[], guard := none }) (v := ?vrg8) rfl (by kernel_rfl) (by kernel_rfl) (by kernel_rfl) (fun _ _ _ h => h) (Or.inl ⟨by rfl, ?yrg8⟩) hS ?_
  case yrg8 =>
    intro w hSw
    go_simp; all_goals (with_reducible rfl)
  simp only [Act.put, List.setIfInBounds_toArray, List.set_cons_zero, List.set_cons_succ]
  refine wpAnyH_take (i := 10) (oi := { dst := some 38, op := Op.slice 26 (Operand.tmp 34) (some (Operand.tmp 36)) (some (Operand.tmp 37)) none, type := 26, pos := "ref.go:130", after := #[{ on := 6, ground := Ground.data }, { on := 8, ground := Ground.data }, { on := 9, ground := Ground.data }], guard := none }) (v := ?vrg9) rfl (by kernel_rfl) (by kernel_rfl) (by kernel_rfl) (fun _ _ _ h => h) (Or.inl ⟨by rfl, ?yrg9⟩) hS ?_
  case yrg9 =>
    intro w hSw
    obtain ⟨i1, i2, i3, i4⟩ := HC.out
    go_simp; all_goals (with_reducible rfl)
  simp only [Act.put, List.setIfInBounds_toArray, List.set_cons_zero, List.set_cons_succ]
  rw [HT4.out]
  refine wpAnyH_take (i := 11) (oi := { dst := some 39, op := Op.convert 26 9 (Operand.tmp 38), type := 9, pos := "ref.go:130", after := #[{ on := 10, ground := Ground.data }], guard := none }) (v := ?vrg10) rfl (by kernel_rfl) (by kernel_rfl) (by kernel_rfl) (fun _ _ _ h => h) (Or.inl ⟨by rfl, ?yrg10⟩) hS ?_
  case yrg10 =>
    intro w hSw
    have kk := run_str (HBP.out.below hSw) (c - p)
    rw [HP4.out] at kk
    go_simp; all_goals (with_reducible rfl)
  simp only [Act.put, List.setIfInBounds_toArray, List.set_cons_zero, List.set_cons_succ]
  refine wpAnyH_ready (rs := [4]) (by kernel_rfl) (by simp) ?_
  refine (AllReadyH.cons (o := { dst := some 32, op := Op.call { callee := Callee.value (Operand.func 30), args := #[Operand.const (Value.int IntKind.i64 1), Operand.tmp 31], argTypes := #[3, 26] }, type := 26, pos := "ref.go:130", after := #[{ on := 3, ground := Ground.data }], guard := none }) rfl (fun K hK => ?_) AllReadyH.nil)
  go_simp
  refine (HS.out W0.drew (HB.out W0.drew hdr)).mono ?_
  rintro e w5 h5
  obtain ⟨A5, c5, rfl, hc5, hm5, hB5, hb5⟩ := h5.bytes
  have g5 : Below w.heap.size w w5 := hdr.trans (hb5.mono hdr.size)
  have HR5 := Lib.hid (show Rb4 w.heap.size w5 (.int .i64 0) (.int .i64 0) (.slice none 0 0) (.int .u32 0) from (hb5.block _ hlt0).trans HR0.out)
  have k5 := run_str hB5 c5
  rw [HS1.out] at k5
  clear hb5 hB5 h5
  rw [HS1.out]
  go_wp2_with fail
  refine hK.out _ _ g5 (fun _ => ?_)
  clear hK K
  refine wpAnyH_ready (rs := [5]) (by kernel_rfl) (by simp) ?_
  refine (AllReadyH.cons (o := { dst := some 33, op := Op.convert 26 9 (Operand.tmp 32), type := 9, pos := "ref.go:130", after := #[{ on := 4, ground := Ground.data }], guard := none }) rfl (fun K hK => ?_) AllReadyH.nil)
  go_simp
  refine hK.out _ _ g5 (fun _ => ?_)
  clear hK K
  refine wpAnyH_ready (rs := [12]) (by kernel_rfl) (by simp) ?_
  refine (AllReadyH.cons (o := { dst := some 40, op := Op.binOp BinOp.neq 9 (Operand.tmp 33) (Operand.tmp 39) 9, type := 4, pos := "ref.go:130", after := #[{ on := 5, ground := Ground.data }, { on := 11, ground := Ground.data }], guard := none }) rfl (fun K hK => ?_) AllReadyH.nil)
  go_simp
  refine hK.out _ _ g5 (fun _ => ?_)
  clear hK K
  refine wpAnyH_done (by kernel_rfl) ?_ _
  rw [HV.out]
  obtain ⟨z0, z1, z2, z3⟩ := HR5.out.cells
  have zf0 := HR5.out.frozen 0
  have zf1 := HR5.out.frozen 1
  have zf2 := HR5.out.frozen 2
  have zf3 := HR5.out.frozen 3
  cases v with
  | false =>
    have HF := Lib.hid (HERR.out 4 (by decide) (by rw [HSEAL.out, if_pos rfl]))
    clear HSEAL
    go_wp2_with fail
    obtain ⟨k0, k1, k2, k3⟩ := Rb4.ret HR5.out (.int .i64 0) (.int .i64 0) (.slice none 0 0) (.int .u32 0)
    exact bodyPost_ret (v := .tuple #[.agg #[.int .i64 0, .int .i64 0, .slice none 0 0, .int .u32 0], .int .i64 0, .int .i64 4]) (by simp [results, Tryd.results13, go_sem, k0, k1, k2, k3]) rfl (HdGetDone.err HF.out (HRET.out w5 g5 _ _ _ _))
  | true =>
  rw [if_neg (by simp)] at HSEAL
  rw [HSEAL.out] at HD
  simp only at HD
  rw [if_neg (by simp)] at HD
  have j1 := HC1.out w5 g5
  have hx1 : (l.getD 1 0).toNat < 256 := (l.getD 1 0).toNat_lt
  have j1' : w5.cell? ⟨b, off + 1, none⟩ = some (.int .u8 (((l.getD 1 0).toNat : Nat) : Int)) := j1
  have hl1i : (1 : Int) < (l.length : Int) := by omega
  rw [HTK.out] at HD
  clear j1 HSEAL HV HTK
  generalize (l.getD 1 0).toNat = x1 at *
  have hx1i : (x1 : Int) < 256 := by omega
  have HX1W : Hid (IntKind.i64.wrap (x1 : Int) = (x1 : Int)) := Lib.hid (IntWalk.i64_in _ (by omega))
  by_cases h5 : x1 / 4 % 16 = 0
  case neg =>
    have HF := Lib.hid (show getHd l = (zeroH, 0, 5) by rw [HD.out, if_pos h5])
    have h5i : ((x1 : Int) / 4 % 16 == 0) = false := by simp; omega
    clear HD h5
    go_wp2_with fail
    obtain ⟨k0, k1, k2, k3⟩ := Rb4.ret HR5.out (.int .i64 0) (.int .i64 0) (.slice none 0 0) (.int .u32 0)
    exact bodyPost_ret (v := .tuple #[.agg #[.int .i64 0, .int .i64 0, .slice none 0 0, .int .u32 0], .int .i64 0, .int .i64 5]) (by simp [results, Tryd.results13, go_sem, k0, k1, k2, k3]) rfl (HdGetDone.err HF.out (HRET.out w5 g5 _ _ _ _))
  rw [if_neg (fun h => h h5)] at HD
  have h5i : ((x1 : Int) / 4 % 16 == 0) = true := by simp; omega
  have HLT5 := Lib.hid (show w.heap.size < w5.heap.size from (Array.getElem?_eq_some_iff.1 HR5.out).1)
  have hdr2 : Below w.heap.size w w5.drew := g5.trans ((below_drew w5).mono g5.size)
  have HPA := Lib.hid (fun (wx : World) (hwx : Below w.heap.size w wx) => rparts_any (some ⟨b, off + 2, none⟩) ((l.drop 2).take (p - 2)) (c - 2) x1 wx ((Bytes.drop 2 (HB.out wx hwx)).take (p - 2)) (by have := HLEN.out; rw [List.length_take, List.length_drop]; omega) (by have := HLEN.out; omega) (by have := HLEN.out; rw [List.length_take, List.length_drop]; omega) (by omega))
  have HPL : Hid (((l.drop 2).take (p - 2)).length = p - 2) := Lib.hid (by have := HLEN.out; rw [List.length_take, List.length_drop]; omega)
  rw [HPL.out] at HPA
  have HC2 := Lib.hid (show (2 : Int) ≤ (p : Int) ∧ (p : Int) ≤ (c : Int) ∧ (2 : Int) ≤ (c : Int) ∧ ¬ c = 2 ∧ 2 ≤ p by have := HLEN.out; omega)
  generalize partsM x1 ((l.drop 2).take (p - 2)) = R at *
  obtain ⟨⟨rp, rq, rl, rd⟩, rer⟩ := R
  simp only at HD
  clear h5
  go_upto_region 12 with fail
  go_cut [6, 7] (fun s6 s7 wx => ∃ r A6 c6, s6 = .pointer (some ⟨r, 0, none⟩) ∧ s7 = .int .i64 (rer : Nat) ∧ w.heap.size < r ∧ Rb4 r wx (.int .i64 rp) (.int .i64 rq) (.slice A6 rl.length c6) (.int .u32 (rd : Nat)) ∧ Rb4 w.heap.size wx (.int .i64 0) (.int .i64 0) (.slice none 0 0) (.int .u32 0) ∧ Below w.heap.size w wx ∧ Fils wx A6 rl ∧ rl.length ≤ c6 ∧ c6 ≤ 9223372036854775807 ∧ (∀ a, A6 = some a → w.heap.size < a.block))
  case first =>
    refine wp_region_held_drew (S := fun w' => Below w.heap.size w w') (by kernel_rfl) hdr2 (fun hS => ?_)
    refine wpAnyH_take (i := 0) (oi := { dst := some 50, op := Op.move (Operand.tmp 0), type := 26, pos := "ref.go:136", after := #[], guard := none }) (v := ?vrh11) rfl (by kernel_rfl) (by kernel_rfl) (by kernel_rfl) (fun _ _ _ h => h) (Or.inl ⟨by rfl, ?yrh11⟩) hS ?_
    case yrh11 =>
      intro w hSw
      go_simp; all_goals (with_reducible rfl)
    simp only [Act.put, List.setIfInBounds_toArray, List.set_cons_zero, List.set_cons_succ]
    refine wpAnyH_take (i := 1) (oi := { dst := some 51, op := Op.move (Operand.tmp 5), type := 3, pos := "ref.go:136", after := #[], guard := none }) (v := ?vrh12) rfl (by kernel_rfl) (by kernel_rfl) (by kernel_rfl) (fun _ _ _ h => h) (Or.inl ⟨by rfl, ?yrh12⟩) hS ?_
    case yrh12 =>
      intro w hSw
      go_simp; all_goals (with_reducible rfl)
    simp only [Act.put, List.setIfInBounds_toArray, List.set_cons_zero, List.set_cons_succ]
    refine wpAnyH_take (i := 2) (oi := { dst := some 52, op := Op.binOp BinOp.sub 3 (Operand.tmp 51) (Operand.const (Value.int IntKind.i64 4)) 3, type := 3, pos := "ref.go:136", after := #[{ on := 1, ground := Ground.data }], guard := none }) (v := ?vrh13) rfl (by kernel_rfl) (by kernel_rfl) (by kernel_rfl) (fun _ _ _ h => h) (Or.inl ⟨by rfl, ?yrh13⟩) hS ?_
    case yrh13 =>
      intro w hSw
      go_simp; all_goals (with_reducible rfl)
    simp only [Act.put, List.setIfInBounds_toArray, List.set_cons_zero, List.set_cons_succ]
    rw [HW.out]
    refine wpAnyH_take (i := 3) (oi := { dst := some 53, op := Op.slice 26 (Operand.tmp 50) (some (Operand.const (Value.int IntKind.i64 2))) (some (Operand.tmp 52)) none, type := 26, pos := "ref.go:136", after := #[{ on := 0, ground := Ground.data }, { on := 2, ground := Ground.data }], guard := none }) (v := ?vrh14) rfl (by kernel_rfl) (by kernel_rfl) (by kernel_rfl) (fun _ _ _ h => h) (Or.inl ⟨by rfl, ?yrh14⟩) hS ?_
    case yrh14 =>
      intro w hSw
      obtain ⟨i1, i2, i3, i4, i5⟩ := HC2.out
      go_simp; all_goals (with_reducible rfl)
    simp only [Act.put, List.setIfInBounds_toArray, List.set_cons_zero, List.set_cons_succ]
    refine wpAnyH_take (i := 4) (oi := { dst := some 54, op := Op.move (Operand.tmp 0), type := 26, pos := "ref.go:136", after := #[], guard := none }) (v := ?vrh15) rfl (by kernel_rfl) (by kernel_rfl) (by kernel_rfl) (fun _ _ _ h => h) (Or.inl ⟨by rfl, ?yrh15⟩) hS ?_
    case yrh15 =>
      intro w hSw
      go_simp; all_goals (with_reducible rfl)
    simp only [Act.put, List.setIfInBounds_toArray, List.set_cons_zero, List.set_cons_succ]
    refine wpAnyH_take (i := 5) (oi := { dst := some 55, op := Op.indexAddr 26 (Operand.tmp 54) (Operand.const (Value.int IntKind.i64 1)), type := 0, pos := "ref.go:136", after := #[{ on := 4, ground := Ground.data }], guard := none }) (v := ?vrh16) rfl (by kernel_rfl) (by kernel_rfl) (by kernel_rfl) (fun _ _ _ h => h) (Or.inl ⟨by rfl, ?yrh16⟩) hS ?_
    case yrh16 =>
      intro w hSw
      obtain ⟨i1, i2, i3, i4, i5⟩ := HC2.out
      go_simp; all_goals (with_reducible rfl)
    simp only [Act.put, List.setIfInBounds_toArray, List.set_cons_zero, List.set_cons_succ]
    refine wpAnyH_take (i := 6) (oi := { dst := some 56, op := Op.load 5 (Operand.tmp 55), type := 5, pos := "ref.go:136", after := #[{ on := 5, ground := Ground.data }], guard := none }) (v := ?vrh17) rfl (by kernel_rfl) (by kernel_rfl) (by kernel_rfl) (fun _ _ _ h => h) (Or.inl ⟨by rfl, ?yrh17⟩) hS ?_
    case yrh17 =>
      intro w hSw
      have j := HC1.out w hSw
      go_simp; all_goals (with_reducible rfl)
    simp only [Act.put, List.setIfInBounds_toArray, List.set_cons_zero, List.set_cons_succ]
    refine wpAnyH_take (i := 7) (oi := { dst := some 57, op := Op.convert 5 3 (Operand.tmp 56), type := 3, pos := "ref.go:136", after := #[{ on := 6, ground := Ground.data }], guard := none }) (v := ?vrh18) rfl (by kernel_rfl) (by kernel_rfl) (by kernel_rfl) (fun _ _ _ h => h) (Or.inl ⟨by rfl, ?yrh18⟩) hS ?_
    case yrh18 =>
      intro w hSw
      go_simp; all_goals (with_reducible rfl)
    simp only [Act.put, List.setIfInBounds_toArray, List.set_cons_zero, List.set_cons_succ]
    rw [HX1W.out]
    refine wpAnyH_ready (rs := [8, 12]) (by kernel_rfl) (by simp) ?_
    refine (AllReadyH.cons (o := { dst := some 58, op := Op.call { callee := Callee.value (Operand.func 31), args := #[Operand.tmp 53, Operand.tmp 57], argTypes := #[26, 3] }, type := 65, pos := "ref.go:136", after := #[{ on := 3, ground := Ground.data }, { on := 7, ground := Ground.data }], guard := none }) rfl (fun K hK => ?_) (AllReadyH.cons (o := { dst := some 6, op := Op.alloc 32, type := 0, pos := "ref.go:136", after := #[], guard := none }) rfl (fun K hK => ?_) AllReadyH.nil))
    · skip
      go_simp
      refine (HPA.out _ hdr2).mono ?_
      rintro e w6 h6
      obtain ⟨A6, c6, rfl, hb6, hf6, hc6, hm6, hA6⟩ := h6
      simp only at hf6 hc6
      have HF6 := Lib.hid (And.intro hf6 (And.intro hc6 (And.intro hm6 hA6)))
      clear hf6 hc6 hm6 hA6
      have g6 : Below w.heap.size w w6 := hdr2.trans (hb6.mono hdr2.size)
      have g7 : Below w.heap.size w (w6.alloc (.cells #[.int .i64 rp, .int .i64 rq, .slice A6 rl.length c6, .int .u32 (rd : Nat)] 32)) := g6.alloc g6.size _
      have hz7 : Rb4 w.heap.size (w6.alloc (.cells #[.int .i64 rp, .int .i64 rq, .slice A6 rl.length c6, .int .u32 (rd : Nat)] 32)) (.int .i64 0) (.int .i64 0) (.slice none 0 0) (.int .u32 0) := (Below.heap_alloc _ _ _ (Nat.lt_of_lt_of_le HLT5.out hb6.size)).trans ((hb6.block _ (by show _ < w5.heap.size; exact HLT5.out)).trans HR5.out)
      have HEND := Lib.hid (show ∃ r A c, Value.pointer (some ⟨w6.heap.size, 0, none⟩) = .pointer (some ⟨r, 0, none⟩) ∧ Value.int .i64 (rer : Nat) = .int .i64 (rer : Nat) ∧ w.heap.size < r ∧ Rb4 r (w6.alloc (.cells #[.int .i64 rp, .int .i64 rq, .slice A6 rl.length c6, .int .u32 (rd : Nat)] 32)) (.int .i64 rp) (.int .i64 rq) (.slice A rl.length c) (.int .u32 (rd : Nat)) ∧ Rb4 w.heap.size (w6.alloc (.cells #[.int .i64 rp, .int .i64 rq, .slice A6 rl.length c6, .int .u32 (rd : Nat)] 32)) (.int .i64 0) (.int .i64 0) (.slice none 0 0) (.int .u32 0) ∧ Below w.heap.size w (w6.alloc (.cells #[.int .i64 rp, .int .i64 rq, .slice A6 rl.length c6, .int .u32 (rd : Nat)] 32)) ∧ Fils (w6.alloc (.cells #[.int .i64 rp, .int .i64 rq, .slice A6 rl.length c6, .int .u32 (rd : Nat)] 32)) A rl ∧ rl.length ≤ c ∧ c ≤ 9223372036854775807 ∧ (∀ a, A = some a → w.heap.size < a.block) from
        ⟨w6.heap.size, A6, c6, rfl, rfl, Nat.lt_of_lt_of_le HLT5.out hb6.size, heap_alloc_last _ _, hz7, g7, HF6.out.1.below ((Below.refl _ _).alloc (Nat.le_refl _) _), HF6.out.2.1, HF6.out.2.2.1, fun a e => Nat.lt_of_lt_of_le HLT5.out (HF6.out.2.2.2 a e)⟩)
      go_wp2_with fail
      refine hK.out _ _ g6 (fun _ => ?_)
      clear hK K
      refine wpAnyH_take (i := 9) (oi := { dst := some 49, op := Op.move (Operand.tmp 58), type := 65, pos := "ref.go:136", after := #[{ on := 8, ground := Ground.data }], guard := none }) (v := ?vrh19) rfl (by kernel_rfl) (by kernel_rfl) (by kernel_rfl) (fun _ _ _ h => h) (Or.inl ⟨by rfl, ?yrh19⟩) g6 ?_
      case yrh19 =>
        intro w hSw
        go_simp; all_goals (with_reducible rfl)
      simp only [Act.put, List.setIfInBounds_toArray, List.set_cons_zero, List.set_cons_succ]
      refine wpAnyH_take (i := 10) (oi := { dst := some 59, op := Op.extract (Operand.tmp 49) 0, type := 32, pos := "ref.go:136", after := #[{ on := 9, ground := Ground.data }], guard := none }) (v := ?vrh20) rfl (by kernel_rfl) (by kernel_rfl) (by kernel_rfl) (fun _ _ _ h => h) (Or.inl ⟨by rfl, ?yrh20⟩) g6 ?_
      case yrh20 =>
        intro w hSw
        go_simp; all_goals (with_reducible rfl)
      simp only [Act.put, List.setIfInBounds_toArray, List.set_cons_zero, List.set_cons_succ]
      refine wpAnyH_take (i := 11) (oi := { dst := some 60, op := Op.extract (Operand.tmp 49) 1, type := 3, pos := "ref.go:136", after := #[{ on := 9, ground := Ground.data }, { on := 13, ground := Ground.gcOnly Departure.lateStores }], guard := none }) (v := ?vrh21) rfl (by kernel_rfl) (by kernel_rfl) (by kernel_rfl) (fun _ _ _ h => h) (Or.inl ⟨by rfl, ?yrh21⟩) g6 ?_
      case yrh21 =>
        intro w hSw
        go_simp; all_goals (with_reducible rfl)
      simp only [Act.put, List.setIfInBounds_toArray, List.set_cons_zero, List.set_cons_succ]
      refine wpAnyH_ready (rs := [12]) (by kernel_rfl) (by simp) ?_
      refine (AllReadyH.cons (o := { dst := some 6, op := Op.alloc 32, type := 0, pos := "ref.go:136", after := #[], guard := none }) rfl (fun K hK => ?_) AllReadyH.nil)
      go_simp
      refine hK.out _ _ (g6.alloc g6.size _) (fun _ => ?_)
      clear hK K
      refine wpAnyH_ready (rs := [13]) (by kernel_rfl) (by simp) ?_
      refine (AllReadyH.cons (o := { dst := none, op := Op.store 32 (Operand.tmp 6) (Operand.tmp 59), type := 0, pos := "ref.go:136", after := #[{ on := 12, ground := Ground.data }, { on := 10, ground := Ground.data }, { on := 8, ground := Ground.chain }, { on := 0, ground := Ground.phase }, { on := 1, ground := Ground.phase }, { on := 2, ground := Ground.phase }, { on := 3, ground := Ground.phase }, { on := 4, ground := Ground.phase }, { on := 5, ground := Ground.phase }, { on := 6, ground := Ground.phase }, { on := 7, ground := Ground.phase }, { on := 8, ground := Ground.phase }, { on := 9, ground := Ground.phase }, { on := 10, ground := Ground.phase }, { on := 11, ground := Ground.textOnly Departure.lateStores }, { on := 12, ground := Ground.phase }], guard := none }) rfl (fun K hK => ?_) AllReadyH.nil)
      go_simp
      refine hK.out _ _ g7 (fun _ => ?_)
      clear hK K
      refine wpAnyH_ready (rs := [14]) (by kernel_rfl) (by simp) ?_
      refine (AllReadyH.cons (o := { dst := some 7, op := Op.assign (Operand.tmp 60), type := 3, pos := "ref.go:136", after := #[{ on := 11, ground := Ground.data }, { on := 13, ground := Ground.chain }, { on := 0, ground := Ground.phase }, { on := 1, ground := Ground.phase }, { on := 2, ground := Ground.phase }, { on := 3, ground := Ground.phase }, { on := 4, ground := Ground.phase }, { on := 5, ground := Ground.phase }, { on := 6, ground := Ground.phase }, { on := 7, ground := Ground.phase }, { on := 8, ground := Ground.phase }, { on := 9, ground := Ground.phase }, { on := 10, ground := Ground.phase }, { on := 11, ground := Ground.phase }, { on := 12, ground := Ground.phase }, { on := 13, ground := Ground.phase }], guard := none }) rfl (fun K hK => ?_) AllReadyH.nil)
      go_simp
      refine hK.out _ _ g7 (fun _ => ?_)
      clear hK K
      refine wpAnyH_done (by kernel_rfl) ?_ _
      go_wp2_with fail
      go_meet
      obtain ⟨r9, A9, c9, e1, _, e2⟩ := HEND.out
      exact ⟨r9, A9, c9, e1, rfl, e2⟩
    · skip
      go_simp
      have gA := hdr2.alloc hdr2.size (.cells #[.int .i64 0, .int .i64 0, .slice none 0 0, .int .u32 0] 32)
      refine hK.out _ _ gA (fun _ => ?_)
      clear hK K
      refine wpAnyH_ready (rs := [8]) (by kernel_rfl) (by simp) ?_
      refine (AllReadyH.cons (o := { dst := some 58, op := Op.call { callee := Callee.value (Operand.func 31), args := #[Operand.tmp 53, Operand.tmp 57], argTypes := #[26, 3] }, type := 65, pos := "ref.go:136", after := #[{ on := 3, ground := Ground.data }, { on := 7, ground := Ground.data }], guard := none }) rfl (fun K hK => ?_) AllReadyH.nil)
      go_simp
      refine (HPA.out _ gA).mono ?_
      rintro e w6 h6
      obtain ⟨A6, c6, rfl, hb6, hf6, hc6, hm6, hA6⟩ := h6
      simp only at hf6 hc6
      have HF6 := Lib.hid (And.intro hf6 (And.intro hc6 (And.intro hm6 hA6)))
      clear hf6 hc6 hm6 hA6
      have g6 : Below w.heap.size w w6 := gA.trans (hb6.mono gA.size)
      have hrb6 : Rb4 w5.heap.size w6 (.int .i64 0) (.int .i64 0) (.slice none 0 0) (.int .u32 0) := (hb6.block _ (by simp)).trans (heap_alloc_last w5.drew _)
      have hz6 : Rb4 w.heap.size w6 (.int .i64 0) (.int .i64 0) (.slice none 0 0) (.int .u32 0) := (hb6.block _ (by simp; have := HLT5.out; omega)).trans ((Below.heap_alloc _ _ _ (by show _ < w5.heap.size; exact HLT5.out)).trans HR5.out)
      have hne5 : w5.heap.size ≠ w.heap.size := by have := HLT5.out; omega
      have hne6 : ∀ a, A6 = some a → a.block ≠ w5.heap.size := fun a e => by have := HF6.out.2.2.2 a e; simp at this; omega
      have hle5 : w.heap.size ≤ w5.heap.size := by have := HLT5.out; omega
      have g7 : Below w.heap.size w ((((w6.setCell ⟨w5.heap.size, 0, none⟩ (.int .i64 rp)).setCell ⟨w5.heap.size, 1, none⟩ (.int .i64 rq)).setCell ⟨w5.heap.size, 2, none⟩ (.slice A6 rl.length c6)).setCell ⟨w5.heap.size, 3, none⟩ (.int .u32 (rd : Nat))) := Below.setCell (p := ⟨w5.heap.size, 3, none⟩) (Below.setCell (p := ⟨w5.heap.size, 2, none⟩) (Below.setCell (p := ⟨w5.heap.size, 1, none⟩) (Below.setCell (p := ⟨w5.heap.size, 0, none⟩) g6 hle5 _) hle5 _) hle5 _) hle5 _
      have HEND := Lib.hid (show ∃ r A c, Value.pointer (some ⟨w5.heap.size, 0, none⟩) = .pointer (some ⟨r, 0, none⟩) ∧ Value.int .i64 (rer : Nat) = .int .i64 (rer : Nat) ∧ w.heap.size < r ∧ Rb4 r ((((w6.setCell ⟨w5.heap.size, 0, none⟩ (.int .i64 rp)).setCell ⟨w5.heap.size, 1, none⟩ (.int .i64 rq)).setCell ⟨w5.heap.size, 2, none⟩ (.slice A6 rl.length c6)).setCell ⟨w5.heap.size, 3, none⟩ (.int .u32 (rd : Nat))) (.int .i64 rp) (.int .i64 rq) (.slice A rl.length c) (.int .u32 (rd : Nat)) ∧ Rb4 w.heap.size ((((w6.setCell ⟨w5.heap.size, 0, none⟩ (.int .i64 rp)).setCell ⟨w5.heap.size, 1, none⟩ (.int .i64 rq)).setCell ⟨w5.heap.size, 2, none⟩ (.slice A6 rl.length c6)).setCell ⟨w5.heap.size, 3, none⟩ (.int .u32 (rd : Nat))) (.int .i64 0) (.int .i64 0) (.slice none 0 0) (.int .u32 0) ∧ Below w.heap.size w ((((w6.setCell ⟨w5.heap.size, 0, none⟩ (.int .i64 rp)).setCell ⟨w5.heap.size, 1, none⟩ (.int .i64 rq)).setCell ⟨w5.heap.size, 2, none⟩ (.slice A6 rl.length c6)).setCell ⟨w5.heap.size, 3, none⟩ (.int .u32 (rd : Nat))) ∧ Fils ((((w6.setCell ⟨w5.heap.size, 0, none⟩ (.int .i64 rp)).setCell ⟨w5.heap.size, 1, none⟩ (.int .i64 rq)).setCell ⟨w5.heap.size, 2, none⟩ (.slice A6 rl.length c6)).setCell ⟨w5.heap.size, 3, none⟩ (.int .u32 (rd : Nat))) A rl ∧ rl.length ≤ c ∧ c ≤ 9223372036854775807 ∧ (∀ a, A = some a → w.heap.size < a.block) from
        ⟨w5.heap.size, A6, c6, rfl, rfl, HLT5.out, (((hrb6.set0 _).set1 _).set2 _).set3 _, (((hz6.other hne5).other hne5).other hne5).other hne5, g7, (((HF6.out.1.set hne6 _).set hne6 _).set hne6 _).set hne6 _, HF6.out.2.1, HF6.out.2.2.1, fun a e => Nat.lt_of_lt_of_le HLT5.out (by have := HF6.out.2.2.2 a e; simp at this; omega)⟩)
      obtain ⟨q0, q1, q2, q3⟩ := hrb6.cells
      have qf0 := hrb6.frozen 0
      have qf1 := hrb6.frozen 1
      have qf2 := hrb6.frozen 2
      have qf3 := hrb6.frozen 3
      clear hrb6 hz6 hne6
      go_wp2_with fail
      refine hK.out _ _ g6 (fun _ => ?_)
      clear hK K
      refine wpAnyH_take (i := 9) (oi := { dst := some 49, op := Op.move (Operand.tmp 58), type := 65, pos := "ref.go:136", after := #[{ on := 8, ground := Ground.data }], guard := none }) (v := ?vrh22) rfl (by kernel_rfl) (by kernel_rfl) (by kernel_rfl) (fun _ _ _ h => h) (Or.inl ⟨by rfl, ?yrh22⟩) g6 ?_
      case yrh22 =>
        intro w hSw
        go_simp; all_goals (with_reducible rfl)
      simp only [Act.put, List.setIfInBounds_toArray, List.set_cons_zero, List.set_cons_succ]
      refine wpAnyH_take (i := 10) (oi := { dst := some 59, op := Op.extract (Operand.tmp 49) 0, type := 32, pos := "ref.go:136", after := #[{ on := 9, ground := Ground.data }], guard := none }) (v := ?vrh23) rfl (by kernel_rfl) (by kernel_rfl) (by kernel_rfl) (fun _ _ _ h => h) (Or.inl ⟨by rfl, ?yrh23⟩) g6 ?_
      case yrh23 =>
        intro w hSw
        go_simp; all_goals (with_reducible rfl)
      simp only [Act.put, List.setIfInBounds_toArray, List.set_cons_zero, List.set_cons_succ]
      refine wpAnyH_take (i := 11) (oi := { dst := some 60, op := Op.extract (Operand.tmp 49) 1, type := 3, pos := "ref.go:136", after := #[{ on := 9, ground := Ground.data }, { on := 13, ground := Ground.gcOnly Departure.lateStores }], guard := none }) (v := ?vrh24) rfl (by kernel_rfl) (by kernel_rfl) (by kernel_rfl) (fun _ _ _ h => h) (Or.inl ⟨by rfl, ?yrh24⟩) g6 ?_
      case yrh24 =>
        intro w hSw
        go_simp; all_goals (with_reducible rfl)
      simp only [Act.put, List.setIfInBounds_toArray, List.set_cons_zero, List.set_cons_succ]
      refine wpAnyH_ready (rs := [13]) (by kernel_rfl) (by simp) ?_
      refine (AllReadyH.cons (o := { dst := none, op := Op.store 32 (Operand.tmp 6) (Operand.tmp 59), type := 0, pos := "ref.go:136", after := #[{ on := 12, ground := Ground.data }, { on := 10, ground := Ground.data }, { on := 8, ground := Ground.chain }, { on := 0, ground := Ground.phase }, { on := 1, ground := Ground.phase }, { on := 2, ground := Ground.phase }, { on := 3, ground := Ground.phase }, { on := 4, ground := Ground.phase }, { on := 5, ground := Ground.phase }, { on := 6, ground := Ground.phase }, { on := 7, ground := Ground.phase }, { on := 8, ground := Ground.phase }, { on := 9, ground := Ground.phase }, { on := 10, ground := Ground.phase }, { on := 11, ground := Ground.textOnly Departure.lateStores }, { on := 12, ground := Ground.phase }], guard := none }) rfl (fun K hK => ?_) AllReadyH.nil)
      go_simp
      refine hK.out _ _ g7 (fun _ => ?_)
      clear hK K
      refine wpAnyH_ready (rs := [14]) (by kernel_rfl) (by simp) ?_
      refine (AllReadyH.cons (o := { dst := some 7, op := Op.assign (Operand.tmp 60), type := 3, pos := "ref.go:136", after := #[{ on := 11, ground := Ground.data }, { on := 13, ground := Ground.chain }, { on := 0, ground := Ground.phase }, { on := 1, ground := Ground.phase }, { on := 2, ground := Ground.phase }, { on := 3, ground := Ground.phase }, { on := 4, ground := Ground.phase }, { on := 5, ground := Ground.phase }, { on := 6, ground := Ground.phase }, { on := 7, ground := Ground.phase }, { on := 8, ground := Ground.phase }, { on := 9, ground := Ground.phase }, { on := 10, ground := Ground.phase }, { on := 11, ground := Ground.phase }, { on := 12, ground := Ground.phase }, { on := 13, ground := Ground.phase }], guard := none }) rfl (fun K hK => ?_) AllReadyH.nil)
      go_simp
      refine hK.out _ _ g7 (fun _ => ?_)
      clear hK K
      refine wpAnyH_done (by kernel_rfl) ?_ _
      go_wp2_with fail
      go_meet
      obtain ⟨r9, A9, c9, e1, _, e2⟩ := HEND.out
      exact ⟨r9, A9, c9, e1, rfl, e2⟩
  case rest =>
  obtain ⟨r, A6, c6, rfl, rfl, hrr, hR6, hZ6, hb6, hF6, hc6, hm6, hA6⟩ := hcut
  have HZ6 := Lib.hid hZ6
  have HB6 := Lib.hid hb6
  obtain ⟨z0, z1, z2, z3⟩ := hZ6.cells
  have zf0 := hZ6.frozen 0
  have zf1 := hZ6.frozen 1
  have zf2 := hZ6.frozen 2
  have zf3 := hZ6.frozen 3
  by_cases he : rer = 0
  case neg =>
    have HF := Lib.hid (show getHd l = (zeroH, 0, rer) by rw [HD.out, if_pos he])
    have hei : ((rer : Int) == 0) = false := by simp; omega
    clear HD he hR6 hZ6 hb6 hF6 hA6
    go_wp2_with fail
    obtain ⟨k0, k1, k2, k3⟩ := Rb4.ret HZ6.out (.int .i64 0) (.int .i64 0) (.slice none 0 0) (.int .u32 0)
    exact bodyPost_ret (v := .tuple #[.agg #[.int .i64 0, .int .i64 0, .slice none 0 0, .int .u32 0], .int .i64 0, .int .i64 (rer : Nat)]) (by simp [results, Tryd.results13, go_sem, k0, k1, k2, k3]) rfl (HdGetDone.err HF.out (HRET.out wc HB6.out _ _ _ _))
  subst he
  have HF := Lib.hid (show getHd l = (⟨rp, rq, rl, rd⟩, t, 0) by rw [HD.out, if_neg (fun h => h rfl)])
  have HF6 := Lib.hid (And.intro hF6 (And.intro hc6 (And.intro hm6 hA6)))
  obtain ⟨y0, y1, y2, y3⟩ := hR6.cells
  clear HD hR6 hZ6 hb6 hF6 hA6
  go_wp2_with fail
  obtain ⟨k0, k1, k2, k3⟩ := Rb4.ret HZ6.out (.int .i64 rp) (.int .i64 rq) (.slice A6 rl.length c6) (.int .u32 (rd : Nat))
  have hrne : ∀ a, A6 = some a → a.block ≠ w.heap.size := fun a e => by have := HF6.out.2.2.2 a e; omega
  have hfin := HdGetDone.yes (w := w) (l := l) (A := A6) (c := c6) HF.out (HRET.out wc HB6.out (.int .i64 rp) (.int .i64 rq) (.slice A6 rl.length c6) (.int .u32 (rd : Nat))) ((((HF6.out.1.set hrne _).set hrne _).set hrne _).set hrne _) HF6.out.2.1 HF6.out.2.2.1
  exact bodyPost_ret (v := .tuple #[.agg #[.int .i64 rp, .int .i64 rq, .slice A6 rl.length c6, .int .u32 (rd : Nat)], .int .i64 (t : Nat), .int .i64 0]) (by simp [results, Tryd.results13, go_sem, k0, k1, k2, k3]) rfl hfin
end Go.Proofs.YtaggkcgeddoogaaDoor
