/- The contract of the law HeaderPuts. -/
import Derived.Test.YtaggkcgeddoogaaDoorHdLaws
namespace Go.Proofs.YtaggkcgeddoogaaDoor
open Go.RowKit

set_option maxRecDepth 100000 in
set_option maxHeartbeats 4000000 in
theorem puts_law (h : HeadM) (A : Option Addr) (c : Nat) (B : Option Addr) (m : List UInt8) (d : Nat) (w : World) (hH : h.ok ∧ Fils w A h.l ∧ (∀ f ∈ h.l, f.ok)) (hc : h.l.length ≤ c) (_hm : c ≤ 9223372036854775807) (hM : Bytes w B m) (_hd : m.length ≤ d) (_hm2 : d ≤ 9223372036854775807) :
    Calls Tryd.prog 3 #[headV h A c, .slice B m.length d] w (Holds w) := by
  obtain ⟨hok, hF, hfo⟩ := hH
  have HV := Lib.hid (show (∀ wx, Fils wx A h.l → h.l.length ≤ 20 → Calls Tryd.prog 6 #[headV h A c] wx (HdPutDone wx h)) ∧ (∀ wx, Fils wx A h.l → h.l.length ≤ 20 → Calls Tryd.prog 7 #[headV h A c] wx fun e w' => e = .returned (.bool (validB h)) ∧ Below wx.heap.size wx w') ∧
      (validB h = true → ∀ wx, Fils wx A h.l → Calls Tryd.prog 10 #[headV h A c] wx (OwnDone wx (putH h))) ∧ (validB h = true → getHd (putH h ++ m) = (h, (putH h).length, 0) ∧ 0 < (putH h).length ∧ (putH h).length ≤ 128) from
    ⟨fun wx hf hl => hdput_any h hok A c wx hf hfo hl, fun wx hf hl => rhmay_any h hok A c wx hf hl, fun hv wx hf => rhput_any h hok hfo hv A c wx hf, fun hv => ⟨getHd_put h m hok hfo hv, by have := putH_length h hok hfo hv; omega, by have := putH_length h hok hfo hv; omega⟩⟩)
  obtain ⟨p, q, l, d0⟩ := h
  simp only at *
  obtain ⟨W0, hW0⟩ : ∃ W0, w.alloc (.cells #[.int .i64 p, .int .i64 q, .slice A l.length c, .int .u32 (d0 : Nat)] 25) = W0 := ⟨_, rfl⟩
  have hb0 : Below w.heap.size w W0 := by rw [← hW0]; exact (Below.refl _ _).alloc (Nat.le_refl _) _
  have hr0 : Blk4 w.heap.size W0 (.int .i64 p) (.int .i64 q) (.slice A l.length c) (.int .u32 (d0 : Nat)) := by rw [← hW0]; exact heap_alloc_last _ _
  have hlt0 : w.heap.size < W0.heap.size := by rw [← hW0]; simp
  have HW0 := Lib.hid hW0
  have HB0 := Lib.hid hb0
  have HF := Lib.hid (fun (wx : World) (h : Below w.heap.size w wx) => hF.below h)
  have HM := Lib.hid (fun (wx : World) (h : Below w.heap.size w wx) => hM.below h)
  have HC := Lib.hid (fun (wx : World) (h : Below W0.heap.size W0 wx) => Blk4.cells ((h.block _ hlt0).trans hr0))
  obtain ⟨y0, y1, y2, y3⟩ := hr0.cells
  clear hW0 hb0 hr0 hF hM hok hfo
  by_cases h1 : 20 < l.length
  · have h1i : (20 : Int) < (l.length : Int) := by omega
    clear HV HF
    go_enter Tryd.func3, Tryd.ntmps3
    go_upto_region 1 with fail
    rw [HW0.out]
    clear HW0
    go_wp2_with fail
    refine (hdknows_any _).mono ?_
    rintro e w' ⟨rfl, hb⟩
    go_wp2_with fail
    go_ret
    exact ⟨rfl, HB0.out.trans (hb.mono HB0.out.size)⟩
  have h1i : ¬ (20 : Int) < (l.length : Int) := by omega
  by_cases h2 : 50 < m.length
  · have h2i : (50 : Int) < (m.length : Int) := by omega
    clear HV HM
    go_enter Tryd.func3, Tryd.ntmps3
    go_upto_region 1 with fail
    rw [HW0.out]
    clear HW0
    go_wp2_with fail
    refine (hdknows_any _).mono ?_
    rintro e w' ⟨rfl, hb⟩
    go_wp2_with fail
    go_ret
    exact ⟨rfl, HB0.out.trans (hb.mono HB0.out.size)⟩
  have h2i : ¬ (50 : Int) < (m.length : Int) := by omega
  have hl20 : l.length ≤ 20 := by omega
  go_enter Tryd.func3, Tryd.ntmps3
  go_upto_region 1 with fail
  rw [HW0.out]
  clear HW0
  go_wp2_with fail
  refine (HV.out.1 W0 (HF.out W0 HB0.out) hl20).mono ?_
  rintro e w1 (⟨hv, v1, rfl, ho1, hb1⟩ | ⟨hv, rfl, hb1⟩)
  case inr =>
    obtain ⟨z0, z1, z2, z3⟩ := HC.out w1 hb1
    have hb01 := HB0.out.trans (hb1.mono HB0.out.size)
    have HAS := Lib.hid (as_any A ⟨p, q, l, d0⟩ c w1)
    clear y0 y1 y2 y3
    go_wp2_with fail
    refine HAS.out.mono ?_
    rintro e w2 ⟨rfl, hb2⟩
    have hb02 := hb01.trans (hb2.mono hb01.size)
    have hmay := HV.out.2.1 w2 (HF.out w2 hb02) hl20
    rw [hv] at hmay
    clear HAS
    go_wp2_with fail
    refine hmay.mono ?_
    rintro e w3 ⟨rfl, hb3⟩
    have hb03 := hb02.trans (hb3.mono hb02.size)
    go_wp2_with fail
    refine (hdknows_any _).mono ?_
    rintro e w' ⟨rfl, hb⟩
    go_wp2_with fail
    go_ret
    exact ⟨rfl, hb03.trans (hb.mono hb03.size)⟩
  obtain ⟨z0, z1, z2, z3⟩ := HC.out w1 hb1
  have hb01 := HB0.out.trans (hb1.mono HB0.out.size)
  have HAS := Lib.hid (as_any A ⟨p, q, l, d0⟩ c w1)
  obtain ⟨A5, c5, rfl, hc5, hm5, hB5⟩ := ho1.read
  obtain ⟨hgp, hN0, hN1⟩ := HV.out.2.2.2 hv
  have hRP := HV.out.2.2.1 hv
  clear y0 y1 y2 y3
  go_wp2_with fail
  refine HAS.out.mono ?_
  rintro e w2 ⟨rfl, hb2⟩
  have hb02 := hb01.trans (hb2.mono hb01.size)
  have hb12 := hb1.trans (hb2.mono hb1.size)
  have hmay := HV.out.2.1 w2 (HF.out w2 hb02) hl20
  rw [hv] at hmay
  have hB52 := hB5.below hb2
  clear HAS HV
  go_wp2_with fail
  refine hmay.mono ?_
  rintro e w3 ⟨rfl, hb3⟩
  have hb03 := hb02.trans (hb3.mono hb02.size)
  have hb13 := hb12.trans (hb3.mono hb12.size)
  have hB53 := hB52.below hb3
  generalize putH ⟨p, q, l, d0⟩ = PH at *
  obtain ⟨N, hN⟩ : ∃ N, PH.length = N := ⟨_, rfl⟩
  have HN := Lib.hid hN
  rw [hN]
  rw [hN] at hN0 hN1 hc5 hgp
  have hoE : Own w3.heap.size (w3.alloc (.cells #[] 5)) (.slice (some ⟨w3.heap.size, 0, none⟩) 0 0) [] := Own.lit w3 [] (Nat.le_refl _) (by simp)
  have hbE : Below w3.heap.size w3 (w3.alloc (.cells #[] 5)) := (Below.refl _ _).alloc (Nat.le_refl _) _
  have hBE := hB53.below hbE
  have hME := (HM.out w3 hb03).below hbE
  have hszE := hbE.size
  have hs1 : ([] : List UInt8).length + PH.length ≤ 140737488355328 := by simp; omega
  have hs2 : PH.length + m.length ≤ 140737488355328 := by omega
  have HT : Hid ((PH ++ m).length = N + m.length) := Lib.hid (by rw [List.length_append, hN])
  have HB3 := Lib.hid hb03
  have HB13 := Lib.hid hb13
  have HB53 := Lib.hid hB53
  have HRP0 := Lib.hid hRP
  have HGP := Lib.hid hgp
  clear hmay hb2 hb3 ho1 hB5 hB52 hB53 hb02 hb12 hb1 hb01 z0 z1 z2 z3 hRP hgp hb03 hb13
  go_wp2_with (at_builtin; first | (refine wpList_append_bytes rfl (.tmp 40) (.tmp 41) rfl w3.heap.size _ _ [] rfl hoE A5 PH c5 (by rw [HN.out]; rfl) hBE hs1 hszE ?_; intro v4 w4 ho4 hg4; have hb4 : Below w3.heap.size w3 w4 := below_grown hbE hg4 hszE (fun g e => (hoE.from_base g e).1); have hM4 := (HM.out w3 HB3.out).below hb4; have hsz4 := hb4.size) | (refine wpList_append_bytes rfl (.tmp 42) (.tmp 43) rfl w3.heap.size _ _ PH rfl ho4 B m d rfl hM4 hs2 hsz4 ?_; intro v5 w5 ho5 hg5; have hb5 : Below w3.heap.size w3 w5 := below_grown hb4 hg5 hsz4 (fun g e => (ho4.from_base g e).1); obtain ⟨A6, c6, rfl, hc6, hm6, hB6⟩ := ho5.read; rw [HT.out]))
  have HG := Lib.hid (hdget_any A6 (PH ++ m) c6 w5 hB6 hc6 hm6 (by rw [HT.out]; omega))
  rw [HGP.out, HT.out] at HG
  refine HG.out.mono ?_
  rintro e w6 ⟨A8, c8, rfl, hf8, hc8, hm8, hb6⟩
  simp only at hf8 hc8
  simp only [headV]
  have hb36 : Below w3.heap.size w3 w6 := hb5.trans (hb6.mono hb5.size)
  obtain ⟨w8, hw8⟩ : ∃ w8, w6.alloc (.cells #[.int .i64 p, .int .i64 q, .slice A8 l.length c8, .int .u32 (d0 : Nat)] 25) = w8 := ⟨_, rfl⟩
  have hal : Below w6.heap.size w6 w8 := by rw [← hw8]; exact (Below.refl _ _).alloc (Nat.le_refl _) _
  have hk8 : Blk4 w6.heap.size w8 (.int .i64 p) (.int .i64 q) (.slice A8 l.length c8) (.int .u32 (d0 : Nat)) := by rw [← hw8]; exact heap_alloc_last _ _
  have hlt8 : w6.heap.size < w8.heap.size := by rw [← hw8]; simp
  have hb38 : Below w3.heap.size w3 w8 := hb36.trans (hal.mono hb36.size)
  have hb08 : Below w.heap.size w w8 := HB3.out.trans (hb38.mono HB3.out.size)
  have hb18 : Below W0.heap.size W0 w8 := HB13.out.trans (hb38.mono HB13.out.size)
  have HH1 := Lib.hid (fun (wx : World) (h : Below w8.heap.size w8 wx) => HC.out wx (hb18.trans (h.mono hb18.size)))
  have HG1 := Lib.hid (fun (wx : World) (h : Below w8.heap.size w8 wx) => Blk4.cells ((h.block _ hlt8).trans hk8))
  have HBC : Hid (Bytes w8 A5 PH) := Lib.hid (HB53.out.below hb38)
  have HRP := Lib.hid (fun (wx : World) (h : Below w8.heap.size w8 wx) => HRP0.out wx (HF.out wx (hb08.trans (h.mono hb08.size))))
  have hf88 := hf8.below hal
  have HSM := Lib.hid (fun (wx : World) (h : Below w8.heap.size w8 wx) => rsame_any A8 A ⟨p, q, l, d0⟩ c8 c wx (hf88.below h) (HF.out wx (hb08.trans (h.mono hb08.size))) (by show l.length ≤ 1000000; omega) hc8 hc)
  have HB8 := Lib.hid hb08
  have HW8 := Lib.hid hw8
  have hdr : Below w8.heap.size w8 w8.drew := below_drew w8
  clear hb4 hM4 hsz4 ho4 hg4 hg5 hb5 ho5 hc6 hm6 hB6 HG hf8 hc8 hm8 hb6 hb36 hw8 hal hk8 hlt8 hb38 hb08 hb18 hf88 hoE hbE hBE hME hszE hs1 hs2 HGP HRP0 HB53
  go_upto_region 7 with fail
  rw [HW8.out]
  clear HW8
  refine wp_region_held_drew (S := fun w' => Below w8.heap.size w8 w') (by kernel_rfl) hdr (fun hS => ?_)
  refine wpAnyH_take (i := 0) (oi := { dst := some 49, op := Op.move (Operand.tmp 5), type := 26, pos := "law.go:33", after := #[], guard := none }) (v := ?vlp1) rfl (by kernel_rfl) (by kernel_rfl) (by kernel_rfl) (fun _ _ _ h => h) (Or.inl ⟨by rfl, ?ylp1⟩) hS ?_
  case ylp1 =>
    intro w hSw
    go_simp; all_goals (with_reducible rfl)
  simp only [Act.put, List.setIfInBounds_toArray, List.set_cons_zero, List.set_cons_succ]
  refine wpAnyH_take (i := 1) (oi := { dst := some 50, op := Op.convert 26 9 (Operand.tmp 49), type := 9, pos := "law.go:33", after := #[{ on := 0, ground := Ground.data }], guard := none }) (v := ?vlp2) rfl (by kernel_rfl) (by kernel_rfl) (by kernel_rfl) (fun _ _ _ h => h) (Or.inl ⟨by rfl, ?ylp2⟩) hS ?_
  case ylp2 =>
    intro w hSw
    have k := run_str (HBC.out.below hSw) c5
    rw [HN.out] at k
    go_simp; all_goals (with_reducible rfl)
  simp only [Act.put, List.setIfInBounds_toArray, List.set_cons_zero, List.set_cons_succ]
  refine wpAnyH_take (i := 2) (oi := { dst := some 51, op := Op.load 25 (Operand.tmp 2), type := 25, pos := "law.go:33", after := #[], guard := none }) (v := ?vlp3) rfl (by kernel_rfl) (by kernel_rfl) (by kernel_rfl) (fun _ _ _ h => h) (Or.inl ⟨by rfl, ?ylp3⟩) hS ?_
  case ylp3 =>
    intro w hSw
    obtain ⟨i0, i1, i2, i3⟩ := HH1.out w hSw
    go_simp; all_goals (with_reducible rfl)
  simp only [Act.put, List.setIfInBounds_toArray, List.set_cons_zero, List.set_cons_succ]
  refine wpAnyH_ready (rs := [3]) (by kernel_rfl) (by simp) ?_
  refine (AllReadyH.cons (o := { dst := some 52, op := Op.call { callee := Callee.value (Operand.func 8), args := #[Operand.tmp 51], argTypes := #[25] }, type := 32, pos := "law.go:33", after := #[{ on := 2, ground := Ground.data }], guard := none }) rfl (fun K hK => ?_) AllReadyH.nil)
  go_simp
  refine (as_any A ⟨p, q, l, d0⟩ c w8.drew).mono ?_
  rintro e w9 ⟨rfl, hb9⟩
  have g9 : Below w8.heap.size w8 w9 := hdr.trans (hb9.mono hdr.size)
  clear hb9
  go_wp2_with fail
  refine hK.out _ _ g9 (fun _ => ?_)
  clear hK K
  refine wpAnyH_ready (rs := [4]) (by kernel_rfl) (by simp) ?_
  refine (AllReadyH.cons (o := { dst := some 53, op := Op.call { callee := Callee.value (Operand.func 10), args := #[Operand.tmp 52], argTypes := #[32] }, type := 26, pos := "law.go:33", after := #[{ on := 3, ground := Ground.data }, { on := 3, ground := Ground.chain }], guard := none }) rfl (fun K hK => ?_) AllReadyH.nil)
  go_simp
  refine (HRP.out w9 g9).mono ?_
  rintro e w10 h10
  obtain ⟨A10, c10, rfl, hc10, hm10, hB10, hb10⟩ := h10.bytes
  have g10 : Below w8.heap.size w8 w10 := g9.trans (hb10.mono g9.size)
  have k10 := run_str hB10 c10
  rw [HN.out] at k10
  rw [HN.out]
  clear h10 hB10 hb10 hc10
  go_wp2_with fail
  refine hK.out _ _ g10 (fun _ => ?_)
  clear hK K
  refine wpAnyH_ready (rs := [5]) (by kernel_rfl) (by simp) ?_
  refine (AllReadyH.cons (o := { dst := some 54, op := Op.convert 26 9 (Operand.tmp 53), type := 9, pos := "law.go:33", after := #[{ on := 4, ground := Ground.data }], guard := none }) rfl (fun K hK => ?_) AllReadyH.nil)
  go_simp
  refine hK.out _ _ g10 (fun _ => ?_)
  clear hK K
  refine wpAnyH_ready (rs := [6]) (by kernel_rfl) (by simp) ?_
  refine (AllReadyH.cons (o := { dst := some 55, op := Op.binOp BinOp.eql 9 (Operand.tmp 50) (Operand.tmp 54) 9, type := 4, pos := "law.go:33", after := #[{ on := 1, ground := Ground.data }, { on := 5, ground := Ground.data }], guard := none }) rfl (fun K hK => ?_) AllReadyH.nil)
  go_simp
  refine hK.out _ _ g10 (fun _ => ?_)
  clear hK K
  refine wpAnyH_take (i := 7) (oi := { dst := some 56, op := Op.move (Operand.tmp 55), type := 4, pos := "law.go:33", after := #[{ on := 6, ground := Ground.data }, { on := 4, ground := Ground.chain }], guard := none }) (v := ?vlp4) rfl (by kernel_rfl) (by kernel_rfl) (by kernel_rfl) (fun _ _ _ h => h) (Or.inl ⟨by rfl, ?ylp4⟩) g10 ?_
  case ylp4 =>
    intro w hSw
    go_simp; all_goals (with_reducible rfl)
  simp only [Act.put, List.setIfInBounds_toArray, List.set_cons_zero, List.set_cons_succ]
  refine wpAnyH_take (i := 8) (oi := { dst := some 57, op := Op.move (Operand.tmp 6), type := 28, pos := "law.go:33", after := #[{ on := 7, ground := Ground.guard }], guard := some (7, true) }) (v := ?vlp5) rfl (by kernel_rfl) (by kernel_rfl) (by kernel_rfl) (fun _ _ _ h => h) (Or.inl ⟨by rfl, ?ylp5⟩) g10 ?_
  case ylp5 =>
    intro w hSw
    go_simp; all_goals (with_reducible rfl)
  simp only [Act.put, List.setIfInBounds_toArray, List.set_cons_zero, List.set_cons_succ]
  refine wpAnyH_take (i := 9) (oi := { dst := some 58, op := Op.binOp BinOp.eql 28 (Operand.tmp 57) (Operand.const (Value.int IntKind.i64 0)) 28, type := 4, pos := "law.go:33", after := #[{ on := 8, ground := Ground.data }, { on := 7, ground := Ground.guard }], guard := some (7, true) }) (v := ?vlp6) rfl (by kernel_rfl) (by kernel_rfl) (by kernel_rfl) (fun _ _ _ h => h) (Or.inl ⟨by rfl, ?ylp6⟩) g10 ?_
  case ylp6 =>
    intro w hSw
    go_simp; all_goals (with_reducible rfl)
  simp only [Act.put, List.setIfInBounds_toArray, List.set_cons_zero, List.set_cons_succ]
  refine wpAnyH_take (i := 10) (oi := { dst := some 59, op := Op.pick (Operand.tmp 56) (Operand.tmp 58) (Operand.const (Value.bool false)), type := 4, pos := "law.go:33", after := #[{ on := 7, ground := Ground.data }, { on := 9, ground := Ground.data }], guard := none }) (v := ?vlp7) rfl (by kernel_rfl) (by kernel_rfl) (by kernel_rfl) (fun _ _ _ h => h) (Or.inl ⟨by rfl, ?ylp7⟩) g10 ?_
  case ylp7 =>
    intro w hSw
    go_simp; all_goals (with_reducible rfl)
  simp only [Act.put, List.setIfInBounds_toArray, List.set_cons_zero, List.set_cons_succ]
  refine wpAnyH_take (i := 11) (oi := { dst := some 60, op := Op.move (Operand.tmp 59), type := 4, pos := "law.go:33", after := #[{ on := 10, ground := Ground.data }, { on := 7, ground := Ground.chain }], guard := none }) (v := ?vlp8) rfl (by kernel_rfl) (by kernel_rfl) (by kernel_rfl) (fun _ _ _ h => h) (Or.inl ⟨by rfl, ?ylp8⟩) g10 ?_
  case ylp8 =>
    intro w hSw
    go_simp; all_goals (with_reducible rfl)
  simp only [Act.put, List.setIfInBounds_toArray, List.set_cons_zero, List.set_cons_succ]
  refine wpAnyH_take (i := 12) (oi := { dst := some 61, op := Op.load 25 (Operand.tmp 7), type := 25, pos := "law.go:33", after := #[{ on := 11, ground := Ground.guard }], guard := some (11, true) }) (v := ?vlp9) rfl (by kernel_rfl) (by kernel_rfl) (by kernel_rfl) (fun _ _ _ h => h) (Or.inl ⟨by rfl, ?ylp9⟩) g10 ?_
  case ylp9 =>
    intro w hSw
    obtain ⟨i0, i1, i2, i3⟩ := HG1.out w hSw
    go_simp; all_goals (with_reducible rfl)
  simp only [Act.put, List.setIfInBounds_toArray, List.set_cons_zero, List.set_cons_succ]
  refine wpAnyH_take (i := 14) (oi := { dst := some 63, op := Op.load 25 (Operand.tmp 2), type := 25, pos := "law.go:33", after := #[{ on := 11, ground := Ground.guard }], guard := some (11, true) }) (v := ?vlp10) rfl (by kernel_rfl) (by kernel_rfl) (by kernel_rfl) (fun _ _ _ h => h) (Or.inl ⟨by rfl, ?ylp10⟩) g10 ?_
  case ylp10 =>
    intro w hSw
    obtain ⟨i0, i1, i2, i3⟩ := HH1.out w hSw
    go_simp; all_goals (with_reducible rfl)
  simp only [Act.put, List.setIfInBounds_toArray, List.set_cons_zero, List.set_cons_succ]
  refine wpAnyH_ready (rs := [13]) (by kernel_rfl) (by simp) ?_
  refine (AllReadyH.cons (o := { dst := some 62, op := Op.call { callee := Callee.value (Operand.func 8), args := #[Operand.tmp 61], argTypes := #[25] }, type := 32, pos := "law.go:33", after := #[{ on := 12, ground := Ground.data }, { on := 11, ground := Ground.chain }, { on := 11, ground := Ground.guard }], guard := some (11, true) }) rfl (fun K hK => ?_) AllReadyH.nil)
  go_simp
  refine (as_any A8 ⟨p, q, l, d0⟩ c8 w10).mono ?_
  rintro e w11 ⟨rfl, hb11⟩
  have g11 : Below w8.heap.size w8 w11 := g10.trans (hb11.mono g10.size)
  clear hb11
  go_wp2_with fail
  refine hK.out _ _ g11 (fun _ => ?_)
  clear hK K
  refine wpAnyH_ready (rs := [15]) (by kernel_rfl) (by simp) ?_
  refine (AllReadyH.cons (o := { dst := some 64, op := Op.call { callee := Callee.value (Operand.func 8), args := #[Operand.tmp 63], argTypes := #[25] }, type := 32, pos := "law.go:33", after := #[{ on := 14, ground := Ground.data }, { on := 13, ground := Ground.chain }, { on := 11, ground := Ground.guard }], guard := some (11, true) }) rfl (fun K hK => ?_) AllReadyH.nil)
  go_simp
  refine (as_any A ⟨p, q, l, d0⟩ c w11).mono ?_
  rintro e w12 ⟨rfl, hb12⟩
  have g12 : Below w8.heap.size w8 w12 := g11.trans (hb12.mono g11.size)
  clear hb12
  go_wp2_with fail
  refine hK.out _ _ g12 (fun _ => ?_)
  clear hK K
  refine wpAnyH_ready (rs := [16]) (by kernel_rfl) (by simp) ?_
  refine (AllReadyH.cons (o := { dst := some 65, op := Op.call { callee := Callee.value (Operand.func 11), args := #[Operand.tmp 62, Operand.tmp 64], argTypes := #[32, 32] }, type := 4, pos := "law.go:33", after := #[{ on := 13, ground := Ground.data }, { on := 15, ground := Ground.data }, { on := 15, ground := Ground.chain }, { on := 11, ground := Ground.guard }], guard := some (11, true) }) rfl (fun K hK => ?_) AllReadyH.nil)
  go_simp
  refine (HSM.out w12 g12).mono ?_
  rintro e w13 ⟨rfl, hb13⟩
  have g13 : Below w8.heap.size w8 w13 := g12.trans (hb13.mono g12.size)
  clear hb13
  go_wp2_with fail
  refine hK.out _ _ g13 (fun _ => ?_)
  clear hK K
  refine wpAnyH_take (i := 17) (oi := { dst := some 66, op := Op.pick (Operand.tmp 60) (Operand.tmp 65) (Operand.const (Value.bool false)), type := 4, pos := "law.go:33", after := #[{ on := 11, ground := Ground.data }, { on := 16, ground := Ground.data }], guard := none }) (v := ?vlp11) rfl (by kernel_rfl) (by kernel_rfl) (by kernel_rfl) (fun _ _ _ h => h) (Or.inl ⟨by rfl, ?ylp11⟩) g13 ?_
  case ylp11 =>
    intro w hSw
    go_simp; all_goals (with_reducible rfl)
  simp only [Act.put, List.setIfInBounds_toArray, List.set_cons_zero, List.set_cons_succ]
  refine wpAnyH_take (i := 18) (oi := { dst := some 67, op := Op.move (Operand.tmp 66), type := 4, pos := "law.go:33", after := #[{ on := 17, ground := Ground.data }, { on := 16, ground := Ground.chain }], guard := none }) (v := ?vlp12) rfl (by kernel_rfl) (by kernel_rfl) (by kernel_rfl) (fun _ _ _ h => h) (Or.inl ⟨by rfl, ?ylp12⟩) g13 ?_
  case ylp12 =>
    intro w hSw
    go_simp; all_goals (with_reducible rfl)
  simp only [Act.put, List.setIfInBounds_toArray, List.set_cons_zero, List.set_cons_succ]
  refine wpAnyH_take (i := 19) (oi := { dst := some 68, op := Op.move (Operand.tmp 8), type := 3, pos := "law.go:33", after := #[{ on := 18, ground := Ground.guard }], guard := some (18, true) }) (v := ?vlp13) rfl (by kernel_rfl) (by kernel_rfl) (by kernel_rfl) (fun _ _ _ h => h) (Or.inl ⟨by rfl, ?ylp13⟩) g13 ?_
  case ylp13 =>
    intro w hSw
    go_simp; all_goals (with_reducible rfl)
  simp only [Act.put, List.setIfInBounds_toArray, List.set_cons_zero, List.set_cons_succ]
  refine wpAnyH_take (i := 20) (oi := { dst := some 69, op := Op.move (Operand.tmp 5), type := 26, pos := "law.go:33", after := #[{ on := 18, ground := Ground.guard }], guard := some (18, true) }) (v := ?vlp14) rfl (by kernel_rfl) (by kernel_rfl) (by kernel_rfl) (fun _ _ _ h => h) (Or.inl ⟨by rfl, ?ylp14⟩) g13 ?_
  case ylp14 =>
    intro w hSw
    go_simp; all_goals (with_reducible rfl)
  simp only [Act.put, List.setIfInBounds_toArray, List.set_cons_zero, List.set_cons_succ]
  refine wpAnyH_take (i := 21) (oi := { dst := some 70, op := Op.call { callee := Callee.builtin Builtin.len, args := #[Operand.tmp 69], argTypes := #[26] }, type := 3, pos := "law.go:33", after := #[{ on := 20, ground := Ground.data }, { on := 18, ground := Ground.guard }], guard := some (18, true) }) (v := ?vlp15) rfl (by kernel_rfl) (by kernel_rfl) (by kernel_rfl) (fun _ _ _ h => h) (Or.inl ⟨by rfl, ?ylp15⟩) g13 ?_
  case ylp15 =>
    intro w hSw
    go_simp; all_goals (with_reducible rfl)
  simp only [Act.put, List.setIfInBounds_toArray, List.set_cons_zero, List.set_cons_succ]
  refine wpAnyH_take (i := 22) (oi := { dst := some 71, op := Op.binOp BinOp.eql 3 (Operand.tmp 68) (Operand.tmp 70) 3, type := 4, pos := "law.go:33", after := #[{ on := 19, ground := Ground.data }, { on := 21, ground := Ground.data }, { on := 18, ground := Ground.guard }], guard := some (18, true) }) (v := ?vlp16) rfl (by kernel_rfl) (by kernel_rfl) (by kernel_rfl) (fun _ _ _ h => h) (Or.inl ⟨by rfl, ?ylp16⟩) g13 ?_
  case ylp16 =>
    intro w hSw
    go_simp; all_goals (with_reducible rfl)
  simp only [Act.put, List.setIfInBounds_toArray, List.set_cons_zero, List.set_cons_succ]
  refine wpAnyH_take (i := 23) (oi := { dst := some 72, op := Op.pick (Operand.tmp 67) (Operand.tmp 71) (Operand.const (Value.bool false)), type := 4, pos := "law.go:33", after := #[{ on := 18, ground := Ground.data }, { on := 22, ground := Ground.data }], guard := none }) (v := ?vlp17) rfl (by kernel_rfl) (by kernel_rfl) (by kernel_rfl) (fun _ _ _ h => h) (Or.inl ⟨by rfl, ?ylp17⟩) g13 ?_
  case ylp17 =>
    intro w hSw
    go_simp; all_goals (with_reducible rfl)
  simp only [Act.put, List.setIfInBounds_toArray, List.set_cons_zero, List.set_cons_succ]
  refine wpAnyH_take (i := 24) (oi := { dst := some 73, op := Op.move (Operand.tmp 72), type := 4, pos := "law.go:33", after := #[{ on := 23, ground := Ground.data }, { on := 18, ground := Ground.chain }], guard := none }) (v := ?vlp18) rfl (by kernel_rfl) (by kernel_rfl) (by kernel_rfl) (fun _ _ _ h => h) (Or.inl ⟨by rfl, ?ylp18⟩) g13 ?_
  case ylp18 =>
    intro w hSw
    go_simp; all_goals (with_reducible rfl)
  simp only [Act.put, List.setIfInBounds_toArray, List.set_cons_zero, List.set_cons_succ]
  refine wpAnyH_take (i := 25) (oi := { dst := some 74, op := Op.move (Operand.tmp 9), type := 28, pos := "law.go:33", after := #[{ on := 24, ground := Ground.guard }], guard := some (24, true) }) (v := ?vlp19) rfl (by kernel_rfl) (by kernel_rfl) (by kernel_rfl) (fun _ _ _ h => h) (Or.inl ⟨by rfl, ?ylp19⟩) g13 ?_
  case ylp19 =>
    intro w hSw
    go_simp; all_goals (with_reducible rfl)
  simp only [Act.put, List.setIfInBounds_toArray, List.set_cons_zero, List.set_cons_succ]
  refine wpAnyH_take (i := 26) (oi := { dst := some 75, op := Op.binOp BinOp.eql 28 (Operand.tmp 74) (Operand.const (Value.int IntKind.i64 0)) 28, type := 4, pos := "law.go:33", after := #[{ on := 25, ground := Ground.data }, { on := 24, ground := Ground.guard }], guard := some (24, true) }) (v := ?vlp20) rfl (by kernel_rfl) (by kernel_rfl) (by kernel_rfl) (fun _ _ _ h => h) (Or.inl ⟨by rfl, ?ylp20⟩) g13 ?_
  case ylp20 =>
    intro w hSw
    go_simp; all_goals (with_reducible rfl)
  simp only [Act.put, List.setIfInBounds_toArray, List.set_cons_zero, List.set_cons_succ]
  refine wpAnyH_take (i := 27) (oi := { dst := some 76, op := Op.pick (Operand.tmp 73) (Operand.tmp 75) (Operand.const (Value.bool false)), type := 4, pos := "law.go:33", after := #[{ on := 24, ground := Ground.data }, { on := 26, ground := Ground.data }], guard := none }) (v := ?vlp21) rfl (by kernel_rfl) (by kernel_rfl) (by kernel_rfl) (fun _ _ _ h => h) (Or.inl ⟨by rfl, ?ylp21⟩) g13 ?_
  case ylp21 =>
    intro w hSw
    go_simp; all_goals (with_reducible rfl)
  simp only [Act.put, List.setIfInBounds_toArray, List.set_cons_zero, List.set_cons_succ]
  refine wpAnyH_take (i := 28) (oi := { dst := some 77, op := Op.move (Operand.tmp 76), type := 4, pos := "law.go:33", after := #[{ on := 27, ground := Ground.data }, { on := 24, ground := Ground.chain }], guard := none }) (v := ?vlp22) rfl (by kernel_rfl) (by kernel_rfl) (by kernel_rfl) (fun _ _ _ h => h) (Or.inl ⟨by rfl, ?ylp22⟩) g13 ?_
  case ylp22 =>
    intro w hSw
    go_simp; all_goals (with_reducible rfl)
  simp only [Act.put, List.setIfInBounds_toArray, List.set_cons_zero, List.set_cons_succ]
  refine wpAnyH_ready (rs := [29]) (by kernel_rfl) (by simp) ?_
  refine (AllReadyH.cons (o := { dst := some 78, op := Op.call { callee := Callee.value (Operand.func 5), args := #[], argTypes := #[] }, type := 4, pos := "law.go:33", after := #[{ on := 28, ground := Ground.chain }, { on := 28, ground := Ground.guard }], guard := some (28, true) }) rfl (fun K hK => ?_) AllReadyH.nil)
  go_simp
  refine (hdknows_any w13).mono ?_
  rintro e w14 ⟨rfl, hb14⟩
  have g14 : Below w8.heap.size w8 w14 := g13.trans (hb14.mono g13.size)
  go_wp2_with fail
  refine hK.out _ _ g14 (fun _ => ?_)
  clear hK K
  refine wpAnyH_ready (rs := [30]) (by kernel_rfl) (by simp) ?_
  refine (AllReadyH.cons (o := { dst := some 79, op := Op.pick (Operand.tmp 77) (Operand.tmp 78) (Operand.const (Value.bool false)), type := 4, pos := "law.go:33", after := #[{ on := 28, ground := Ground.data }, { on := 29, ground := Ground.data }], guard := none }) rfl (fun K hK => ?_) AllReadyH.nil)
  go_simp
  refine hK.out _ _ g14 (fun _ => ?_)
  clear hK K
  refine wpAnyH_ready (rs := [31]) (by kernel_rfl) (by simp) ?_
  refine (AllReadyH.cons (o := { dst := some 4, op := Op.assign (Operand.tmp 79), type := 4, pos := "law.go:33", after := #[{ on := 30, ground := Ground.data }, { on := 29, ground := Ground.chain }, { on := 0, ground := Ground.phase }, { on := 1, ground := Ground.phase }, { on := 2, ground := Ground.phase }, { on := 3, ground := Ground.phase }, { on := 4, ground := Ground.phase }, { on := 5, ground := Ground.phase }, { on := 6, ground := Ground.phase }, { on := 7, ground := Ground.phase }, { on := 8, ground := Ground.phase }, { on := 9, ground := Ground.phase }, { on := 10, ground := Ground.phase }, { on := 11, ground := Ground.phase }, { on := 12, ground := Ground.phase }, { on := 13, ground := Ground.phase }, { on := 14, ground := Ground.phase }, { on := 15, ground := Ground.phase }, { on := 16, ground := Ground.phase }, { on := 17, ground := Ground.phase }, { on := 18, ground := Ground.phase }, { on := 19, ground := Ground.phase }, { on := 20, ground := Ground.phase }, { on := 21, ground := Ground.phase }, { on := 22, ground := Ground.phase }, { on := 23, ground := Ground.phase }, { on := 24, ground := Ground.phase }, { on := 25, ground := Ground.phase }, { on := 26, ground := Ground.phase }, { on := 27, ground := Ground.phase }, { on := 28, ground := Ground.phase }, { on := 29, ground := Ground.phase }, { on := 30, ground := Ground.phase }], guard := none }) rfl (fun K hK => ?_) AllReadyH.nil)
  go_simp
  refine hK.out _ _ g14 (fun _ => ?_)
  clear hK K
  refine wpAnyH_done (by kernel_rfl) ?_ _
  go_wp2_with fail
  go_ret
  exact ⟨rfl, HB8.out.trans (g14.mono HB8.out.size)⟩
end Go.Proofs.YtaggkcgeddoogaaDoor
