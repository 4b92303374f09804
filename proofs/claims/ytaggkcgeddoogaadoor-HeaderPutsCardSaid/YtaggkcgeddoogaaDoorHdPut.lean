/- header.Put. -/
import Derived.Test.YtaggkcgeddoogaaDoorHdPutM
import Derived.Test.YtaggkcgeddoogaaDoorZeros
import Derived.Deep.CutBlock
namespace Go.Proofs.YtaggkcgeddoogaaDoor
open Go.RowKit

def HdPutDone (w : World) (h : HeadM) (e : Ending) (w' : World) : Prop :=
  (validB h = true ∧ ∃ v, e = .returned (.tuple #[v, .int .i64 0]) ∧ Own w.heap.size w' v (putH h) ∧ Below w.heap.size w w') ∨
  (validB h = false ∧ e = .returned (.tuple #[.slice none 0 0, .int .i64 1]) ∧ Below w.heap.size w w')

set_option maxRecDepth 100000 in
set_option maxHeartbeats 4000000 in
theorem hdput_any (h : HeadM) (hok : h.ok) (A : Option Addr) (c : Nat) (w : World) (hF0 : Fils w A h.l) (hfo : ∀ f ∈ h.l, f.ok) (hl : h.l.length ≤ 20) :
    Calls Tryd.prog 6 #[headV h A c] w (HdPutDone w h) := by
  have hB0 : Below w.heap.size w (w.alloc (headBox h A c)) := (Below.refl _ _).alloc (Nat.le_refl _) _
  have hcs := headBox_cells w h A c
  have HV := Lib.hid (valid_any h hok A c (w.alloc (headBox h A c)) (hF0.below hB0) hl)
  have hgood := Lib.hid (good_all h hok hfo)
  have HOP := Lib.hid (show openB h = 0 :: UInt8.ofNat (secondB h) :: restB h from rfl)
  have HSE := Lib.hid (show secondB h = h.l.length + (if h.p = -1 then 0 else 64) + (if h.q = -1 then 0 else 128) from rfl)
  have HRE := Lib.hid (show restB h = optB h.p ++ optB h.q ++ filsB (h.l ++ [lastF h.d]) from rfl)
  have HBH := Lib.hid (show bodyH h = (padB (openB h)).set 0 (UInt8.ofNat ((padB (openB h)).length / 4)) from rfl)
  have HPH := Lib.hid (show putH h = bodyH h ++ sum1 (bodyH h) from rfl)
  have hsz0 : w.heap.size < (w.alloc (headBox h A c)).heap.size := by simp
  obtain ⟨p, q, l, d⟩ := h
  obtain ⟨o1, o2, o3, o4, o5⟩ : -9223372036854775808 ≤ p ∧ p ≤ 9223372036854775807 ∧ -9223372036854775808 ≤ q ∧ q ≤ 9223372036854775807 ∧ d < 4294967296 := hok
  simp only [headBox, headV] at HV hcs hB0 hsz0 HSE HRE hgood
  have HCS := Lib.hid hcs
  have HB0 := Lib.hid hB0
  clear hcs hB0
  cases hv : validB ⟨p, q, l, d⟩ with
  | false =>
    rw [hv] at HV
    go_enter Tryd.func6, Tryd.ntmps6
    go_wp2_with fail
    refine HV.out.mono ?_
    rintro e w1 ⟨rfl, hb1⟩
    go_wp2_with fail
    go_ret2
    exact .inr ⟨hv, rfl, HB0.out.trans (hb1.mono HB0.out.size)⟩
  | true =>
    rw [hv] at HV
    obtain ⟨g1, g2, g3, g4⟩ := hgood.out hv
    have HG : Hid (∀ f ∈ l ++ [lastF d], GoodF f) := Lib.hid g1
    have g2 : l.length ≤ 3 := g2
    have g3 : p = -1 ∨ 1 ≤ p := g3
    have g4 : q = -1 ∨ 0 ≤ q := g4
    have hli : (l.length : Int) ≤ 3 := by omega
    clear g1
    go_enter Tryd.func6, Tryd.ntmps6
    go_wp2_with fail
    refine HV.out.mono ?_
    rintro e w1 ⟨rfl, hb1⟩
    have HB1 : Hid (Below w.heap.size w w1) := Lib.hid (HB0.out.trans (hb1.mono HB0.out.size))
    have HK := Lib.hid (fun (wx : World) (hb : Below w1.heap.size w1 wx) =>
      (show wx.cell? ⟨w.heap.size, 0, none⟩ = some (.int .i64 p) ∧ wx.cell? ⟨w.heap.size, 1, none⟩ = some (.int .i64 q) ∧ wx.cell? ⟨w.heap.size, 2, none⟩ = some (.slice A l.length c) ∧ wx.cell? ⟨w.heap.size, 3, none⟩ = some (.int .u32 (d : Nat)) from
        have lt0 := hsz0
        have lt1 : w.heap.size < w1.heap.size := Nat.lt_of_lt_of_le hsz0 hb1.size
        have up := fun i => (hb.cell (p := ⟨w.heap.size, i, none⟩) lt1).trans (hb1.cell (p := ⟨w.heap.size, i, none⟩) lt0)
        ⟨(up 0).trans HCS.out.1, (up 1).trans HCS.out.2.1, (up 2).trans HCS.out.2.2.1, (up 3).trans HCS.out.2.2.2⟩))
    obtain ⟨_, _, k2, _⟩ := HK.out w1 (Below.refl _ _)
    have HLT1 : Hid (w.heap.size < w1.heap.size) := Lib.hid (Nat.lt_of_lt_of_le hsz0 hb1.size)
    clear hb1 hsz0
    have hw8 : IntKind.u8.wrap (l.length : Int) = (l.length : Int) := by rw [IntKind.wrap_u8]; omega
    have hX0 : Box (w1.heap.size + 1) ((w1.alloc (.cells #[.int .u8 0, .int .u8 (l.length : Int)] 5)).alloc (.cells #[.slice (some ⟨w1.heap.size, 0, none⟩) 2 2] 26)) (.slice (some ⟨w1.heap.size, 0, none⟩) 2 2) := by
      have h := heap_alloc_last (w1.alloc (.cells #[.int .u8 0, .int .u8 (l.length : Int)] 5)) (.cells #[.slice (some ⟨w1.heap.size, 0, none⟩) 2 2] 26)
      rw [World.size_alloc] at h
      exact h
    have hln : ((UInt8.ofNat l.length).toNat : Int) = (l.length : Int) := by rw [UInt8.toNat_ofNat']; omega
    have hO0 : Own w1.heap.size ((w1.alloc (.cells #[.int .u8 0, .int .u8 (l.length : Int)] 5)).alloc (.cells #[.slice (some ⟨w1.heap.size, 0, none⟩) 2 2] 26)) (.slice (some ⟨w1.heap.size, 0, none⟩) 2 2) [0, UInt8.ofNat l.length] := by
      have h := (Own.lit w1 [0, UInt8.ofNat l.length] (Nat.le_refl _) (by simp)).alloc (.cells #[.slice (some ⟨w1.heap.size, 0, none⟩) 2 2] 26)
      rw [← hln]; exact h
    have hW0 : Below w1.heap.size w1 ((w1.alloc (.cells #[.int .u8 0, .int .u8 (l.length : Int)] 5)).alloc (.cells #[.slice (some ⟨w1.heap.size, 0, none⟩) 2 2] 26)) := ((Below.refl _ _).alloc (Nat.le_refl _) _).alloc (by simp) _
    have HOI : Hid (OutI (w1.heap.size + 1) w1.heap.size w1 [0, UInt8.ofNat l.length] ((w1.alloc (.cells #[.int .u8 0, .int .u8 (l.length : Int)] 5)).alloc (.cells #[.slice (some ⟨w1.heap.size, 0, none⟩) 2 2] 26))) := Lib.hid ⟨_, hX0, hO0, hW0⟩
    obtain ⟨j0, _, _, _⟩ := HK.out _ hW0
    clear hX0 hO0 hW0 hln
    go_upto_region 5 with fail
    generalize (w1.alloc (.cells #[.int .u8 0, .int .u8 (l.length : Int)] 5)).alloc (.cells #[.slice (some ⟨w1.heap.size, 0, none⟩) 2 2] 26) = w2 at *
    go_upto_if 22 with fail
    go_cut [] from 11 (fun wx => OutI (w1.heap.size + 1) w1.heap.size w1 (0 :: UInt8.ofNat (l.length + (if p = -1 then 0 else 64)) :: optB p) wx)
    case first =>
      by_cases hp : p = -1
      · subst hp
        go_wp2_with fail
        go_meet
        exact HOI.out
      · have hp1 : 1 ≤ p := by omega
        have hpo : Hid (optB p = Vl.put 9 p.toNat) := Lib.hid (by unfold optB; rw [if_neg hp])
        have hpi : Hid ((if p = -1 then 0 else 64) = (64 : Nat)) := Lib.hid (by rw [if_neg hp])
        obtain ⟨m, rfl⟩ := Int.eq_ofNat_of_zero_le (show 0 ≤ p by omega)
        obtain ⟨g, cc, hx, ho, hb, hg, hgb, hc1, hf1, _, hcc, hcm, _⟩ := HOI.out.opened
        obtain ⟨s, hs⟩ : ∃ s, l.length + 64 = s := ⟨_, rfl⟩
        have hor : bits .or .u8 (l.length : Int) 64 = (s : Int) := by rw [or64 l.length g2, hs]
        have hst := second_set hx ho hb hg hgb s (by omega)
        have HN := Lib.hid (num_any (w1.heap.size + 1) w1.heap.size _ _ m _ hst.1 hst.2.1 (by omega) (by omega) (by simp))
        obtain ⟨j0', _, _, _⟩ := HK.out _ hst.2.2
        have hxc := hx.cell
        rw [show ((UInt8.ofNat l.length).toNat : Int) = (l.length : Int) by rw [UInt8.toNat_ofNat']; omega] at hc1
        have HST := Lib.hid hst.2.2
        have HS := Lib.hid hs
        have hcci : (2 : Int) ≤ (cc : Int) := by omega
        clear hst hx ho hs hp hg hb
        go_wp2_with fail
        refine HN.out.mono ?_
        rintro e w3 ⟨v3, rfl, hx3, ho3, hb3, _, _⟩
        go_wp2_with fail
        go_meet
        refine ⟨v3, hx3, ?_, HST.out.trans hb3⟩
        rw [hpi.out, hpo.out, HS.out]
        exact ho3
    case rest =>
    obtain ⟨s1, hs1⟩ : ∃ s1, l.length + (if p = -1 then 0 else 64) = s1 := ⟨_, rfl⟩
    have hs13 : s1 = l.length ∨ s1 = l.length + 64 := by rw [← hs1]; split <;> simp
    rw [hs1] at hcut
    have HS1 := Lib.hid hs1
    have HCUT := Lib.hid hcut
    obtain ⟨_, _, _, hbc⟩ := hcut
    obtain ⟨_, j1, _, _⟩ := HK.out _ hbc
    clear hbc hs1 HOI j0
    go_upto_if 35 with fail
    go_cut [] from 11 (fun wx => OutI (w1.heap.size + 1) w1.heap.size w1 (0 :: UInt8.ofNat (s1 + (if q = -1 then 0 else 128)) :: (optB p ++ optB q)) wx)
    case first =>
      by_cases hq : q = -1
      · subst hq
        have ho : optB (-1) = [] := rfl
        go_wp2_with fail
        go_meet
        rw [ho, List.append_nil]
        exact HCUT.out
      · have hpo : Hid (optB q = Vl.put 9 q.toNat) := Lib.hid (by unfold optB; rw [if_neg hq])
        have hpi : Hid ((if q = -1 then 0 else 128) = (128 : Nat)) := Lib.hid (by rw [if_neg hq])
        obtain ⟨m, rfl⟩ := Int.eq_ofNat_of_zero_le (show 0 ≤ q by omega)
        obtain ⟨g, cc, hx, ho, hb, hg, hgb, hc1, hf1, _, hcc, hcm, _⟩ := HCUT.out.opened
        obtain ⟨s, hs⟩ : ∃ s, s1 + 128 = s := ⟨_, rfl⟩
        have hor : bits .or .u8 (s1 : Int) 128 = (s : Int) := by
          rcases hs13 with e | e
          · rw [← hs, e]; exact (or128 l.length g2).1
          · rw [← hs, e]; exact (or128 l.length g2).2
        have hst := second_set hx ho hb hg hgb s (by omega)
        have HN := Lib.hid (num_any (w1.heap.size + 1) w1.heap.size _ _ m _ hst.1 hst.2.1 (by omega) (by omega) (by have := optB_length p; simp; omega))
        obtain ⟨_, j1', _, _⟩ := HK.out _ hst.2.2
        have hxc := hx.cell
        rw [show ((UInt8.ofNat s1).toNat : Int) = (s1 : Int) by rw [UInt8.toNat_ofNat']; omega] at hc1
        obtain ⟨NN, hNN⟩ : ∃ NN, (optB p).length + 2 = NN := ⟨_, rfl⟩
        rw [hNN] at hxc hcc
        have hN1 : (1 : Int) < (NN : Int) := by omega
        have hNc : (NN : Int) ≤ (cc : Int) := by omega
        have HST := Lib.hid hst.2.2
        have HS := Lib.hid hs
        clear hst hx ho hs hq hg hb hNN hcc hs13
        go_wp2_with fail
        refine HN.out.mono ?_
        rintro e w3 ⟨v3, rfl, hx3, ho3, hb3, _, _⟩
        go_wp2_with fail
        go_meet
        refine ⟨v3, hx3, ?_, HST.out.trans hb3⟩
        rw [hpi.out, hpo.out, HS.out]
        exact ho3
    case rest =>
    clear HCUT j1
    have HOPN : Hid (0 :: UInt8.ofNat (s1 + (if q = -1 then 0 else 128)) :: (optB p ++ optB q) ++ filsB (l ++ [lastF d]) = openB ⟨p, q, l, d⟩) := Lib.hid (by
      rw [HOP.out, HSE.out, HRE.out, ← HS1.out]; rfl)
    have hpl : (0 :: UInt8.ofNat (s1 + (if q = -1 then 0 else 128)) :: (optB p ++ optB q) : List UInt8).length ≤ 30 := by
      have h1 := optB_length p
      have h2 := optB_length q
      simp only [List.length_cons, List.length_append]; omega
    generalize (0 :: UInt8.ofNat (s1 + (if q = -1 then 0 else 128)) :: (optB p ++ optB q) : List UInt8) = pre at *
    have HCUT := Lib.hid hcut
    obtain ⟨v0, hx0, ho0, hbc⟩ := hcut
    obtain ⟨_, _, _, j3⟩ := HK.out _ hbc
    have hFl := (hF0.below HB1.out).below hbc
    have hFa := hFl.below ((Below.refl wc.heap.size wc).alloc (Nat.le_refl _) (.cells #[.int .i64 33, .int .u32 (d : Nat)] 48))
    have hba : Below w1.heap.size w1 (wc.alloc (.cells #[.int .i64 33, .int .u32 (d : Nat)] 48)) := hbc.alloc hbc.size _
    have hlast : (wc.alloc (.cells #[.int .i64 33, .int .u32 (d : Nat)] 48)).cell? ⟨wc.heap.size, 0, none⟩ = some (.int .i64 33) ∧ (wc.alloc (.cells #[.int .i64 33, .int .u32 (d : Nat)] 48)).cell? ⟨wc.heap.size, 1, none⟩ = some (.int .u32 (d : Nat)) := ⟨by simp, by simp⟩
    have hbx : wc.heap.size < (wc.alloc (.cells #[.int .i64 33, .int .u32 (d : Nat)] 48)).heap.size := by simp
    have hxa := hx0.below ((Below.refl wc.heap.size wc).alloc (Nat.le_refl _) (.cells #[.int .i64 33, .int .u32 (d : Nat)] 48))
    have hoa := ho0.alloc (.cells #[.int .i64 33, .int .u32 (d : Nat)] 48)
    go_upto_region 12 with fail
    generalize wc.alloc (.cells #[.int .i64 33, .int .u32 (d : Nat)] 48) = wa at *
    go_cut [54, 55, 56] from 57 (fun s54 s55 s56 wx => s56 = .int .i64 0 ∧ s55 = .int .i64 ((l.length : Int) + 1) ∧ OwnF w1.heap.size wx s54 (l ++ [lastF d]) ∧ OutI (w1.heap.size + 1) w1.heap.size w1 pre wx)
    case first =>
      have HH := Lib.hid (fun (w' : World) (hb : Below wa.heap.size wa w') => (hb.cell (p := ⟨w.heap.size, 2, none⟩) (Nat.lt_of_lt_of_le HLT1.out hba.size)).trans (HK.out wa hba).2.2.1)
      have HLS := Lib.hid (fun (w' : World) (hb : Below wa.heap.size wa w') => (show w'.cell? ⟨wc.heap.size, 0, none⟩ = some (.int .i64 33) ∧ w'.cell? ⟨wc.heap.size, 1, none⟩ = some (.int .u32 (d : Nat)) from ⟨(hb.cell (p := ⟨wc.heap.size, 0, none⟩) hbx).trans hlast.1, (hb.cell (p := ⟨wc.heap.size, 1, none⟩) hbx).trans hlast.2⟩))
      have hdr : Below wa.heap.size wa wa.drew := below_drew wa
      have hOL : Fil.ok (lastF d) := ⟨by show (-9223372036854775808 : Int) ≤ 33; omega, by show (33 : Int) ≤ 9223372036854775807; omega, o5⟩
      have hOK7 : ∀ f ∈ ([] ++ l) ++ [lastF d], f.ok := fun f hf => (HG.out f (by simpa using hf)).1
      have len7 : (([] ++ l) ++ [lastF d]).length = l.length + 1 := by simp
      have HFIN := Lib.hid (fun (A7 : Option Addr) (c7 : Nat) (wx : World) (h1 : OwnF wa.heap.size wx (.slice A7 (([] ++ l) ++ [lastF d]).length c7) (([] ++ l) ++ [lastF d])) (h2 : Below wa.heap.size wa wx) => (show OwnF w1.heap.size wx (.slice A7 (l.length + 1) c7) (l ++ [lastF d]) ∧ OutI (w1.heap.size + 1) w1.heap.size w1 pre wx from ⟨(by rw [len7] at h1; exact h1.weaken hba.size), v0, hxa.below h2, hoa.below h2, hba.trans (h2.mono hba.size)⟩))
      clear len7
      have HSZ : Hid (([] : List Fil).length + l.length ≤ 1000000 ∧ ([] ++ l : List Fil).length + [lastF d].length ≤ 1000000) := Lib.hid (by simp; omega)
      refine wp_region_held_drew (S := fun w' => Below wa.heap.size wa w') (by kernel_rfl) hdr (fun hS => ?_)
      refine wpAnyH_take (i := 0) (oi := { dst := some 49, op := Op.fieldAddr 25 (Operand.tmp 1) 2, type := 0, pos := "header.go:49", after := #[], guard := none }) (v := ?vpc1) rfl (by kernel_rfl) (by kernel_rfl) (by kernel_rfl) (fun _ _ _ h => h) (Or.inl ⟨by rfl, ?ypc1⟩) hS ?_
      case ypc1 =>
        intro w hSw
        go_simp; all_goals (with_reducible rfl)
      simp only [Act.put, List.setIfInBounds_toArray, List.set_cons_zero, List.set_cons_succ]
      refine wpAnyH_take (i := 1) (oi := { dst := some 50, op := Op.load 22 (Operand.tmp 49), type := 22, pos := "header.go:49", after := #[{ on := 0, ground := Ground.data }], guard := none }) (v := ?vpc2) rfl (by kernel_rfl) (by kernel_rfl) (by kernel_rfl) (fun _ _ _ h => h) (Or.inl ⟨by rfl, ?ypc2⟩) hS ?_
      case ypc2 =>
        intro w hSw
        have j := HH.out w hSw
        go_simp; all_goals (with_reducible rfl)
      simp only [Act.put, List.setIfInBounds_toArray, List.set_cons_zero, List.set_cons_succ]
      refine wpAnyH_take (i := 3) (oi := { dst := some 52, op := Op.load 48 (Operand.tmp 6), type := 48, pos := "header.go:49", after := #[], guard := none }) (v := ?vpc3) rfl (by kernel_rfl) (by kernel_rfl) (by kernel_rfl) (fun _ _ _ h => h) (Or.inl ⟨by rfl, ?ypc3⟩) hS ?_
      case ypc3 =>
        intro w hSw
        obtain ⟨j, jj⟩ := HLS.out w hSw
        go_simp; all_goals (with_reducible rfl)
      simp only [Act.put, List.setIfInBounds_toArray, List.set_cons_zero, List.set_cons_succ]
      refine wpAnyH_take (i := 7) (oi := { dst := some 56, op := Op.move (Operand.const (Value.int IntKind.i64 0)), type := 3, pos := "header.go:49", after := #[], guard := none }) (v := ?vpc4) rfl (by kernel_rfl) (by kernel_rfl) (by kernel_rfl) (fun _ _ _ h => h) (Or.inl ⟨by rfl, ?ypc4⟩) hS ?_
      case ypc4 =>
        intro w hSw
        go_simp; all_goals (with_reducible rfl)
      simp only [Act.put, List.setIfInBounds_toArray, List.set_cons_zero, List.set_cons_succ]
      refine wpAnyH_ready (rs := [2, 4]) (by kernel_rfl) (by simp) ?_
      refine (AllReadyH.cons (o := { dst := some 51, op := Op.call { callee := Callee.builtin Builtin.append, args := #[Operand.const (Value.slice none 0 0), Operand.tmp 50], argTypes := #[22, 22] }, type := 22, pos := "header.go:49", after := #[{ on := 1, ground := Ground.data }], guard := none }) rfl (fun K hK => ?_) (AllReadyH.cons (o := { dst := some 53, op := Op.buildSlice 22 1 #[(0, Operand.tmp 52)], type := 22, pos := "header.go:49", after := #[{ on := 3, ground := Ground.data }], guard := none }) rfl (fun K hK => ?_) AllReadyH.nil))
      · skip
        refine step_append_fils rfl (.const (.slice none 0 0)) (.tmp 50) rfl wa.heap.size wa.drew (.slice none 0 0) [] rfl (OwnF.nil _ _) A l c rfl (hFa.below hdr) HSZ.out.1 hdr.size ?_
        intro v5 w5 ho5 hg5
        have g5 : Below wa.heap.size wa w5 := below_grown hdr hg5 hdr.size (fun g e => by cases e)
        simp only [Act.put, List.setIfInBounds_toArray, List.set_cons_zero, List.set_cons_succ]
        refine hK.out _ _ g5 (fun _ => ?_)
        clear hK K
        refine wpAnyH_ready (rs := [4]) (by kernel_rfl) (by simp) ?_
        refine (AllReadyH.cons (o := { dst := some 53, op := Op.buildSlice 22 1 #[(0, Operand.tmp 52)], type := 22, pos := "header.go:49", after := #[{ on := 3, ground := Ground.data }], guard := none }) rfl (fun K hK => ?_) AllReadyH.nil)
        go_simp
        have g6 : Below wa.heap.size wa (w5.alloc (.cells #[.int .i64 33, .int .u32 (d : Nat)] 48)) := g5.alloc g5.size _
        refine hK.out _ _ g6 (fun _ => ?_)
        clear hK K
        refine wpAnyH_ready (rs := [5]) (by kernel_rfl) (by simp) ?_
        refine (AllReadyH.cons (o := { dst := some 54, op := Op.call { callee := Callee.builtin Builtin.append, args := #[Operand.tmp 51, Operand.tmp 53], argTypes := #[22, 22] }, type := 22, pos := "header.go:49", after := #[{ on := 2, ground := Ground.data }, { on := 4, ground := Ground.data }, { on := 2, ground := Ground.chain }], guard := none }) rfl (fun K hK => ?_) AllReadyH.nil)
        refine step_append_fils rfl (.tmp 51) (.tmp 53) rfl wa.heap.size (w5.alloc (.cells #[.int .i64 33, .int .u32 (d : Nat)] 48)) v5 ([] ++ l) rfl (ho5.alloc _) (some ⟨w5.heap.size, 0, none⟩) [lastF d] 1 rfl (fils_one w5 (lastF d) hOL) HSZ.out.2 g6.size ?_
        intro v7 w7 ho7 hg7
        have g7 : Below wa.heap.size wa w7 := below_grown g6 hg7 g6.size (fun g e => (ho5.lt g e).1)
        obtain ⟨A7, c7, rfl, _, _, _⟩ := ho7.read hOK7
        have HX := Lib.hid (HFIN.out A7 c7 w7 ho7 g7)
        simp only [Act.put, List.setIfInBounds_toArray, List.set_cons_zero, List.set_cons_succ]
        refine hK.out _ _ g7 (fun _ => ?_)
        clear hK K
        refine wpAnyH_ready (rs := [6]) (by kernel_rfl) (by simp) ?_
        refine (AllReadyH.cons (o := { dst := some 55, op := Op.call { callee := Callee.builtin Builtin.len, args := #[Operand.tmp 54], argTypes := #[22] }, type := 3, pos := "header.go:49", after := #[{ on := 5, ground := Ground.data }], guard := none }) rfl (fun K hK => ?_) AllReadyH.nil)
        go_simp
        refine hK.out _ _ g7 (fun _ => ?_)
        clear hK K
        refine wpAnyH_done (by kernel_rfl) ?_ _
        go_wp2_with fail
        go_meet
        exact ⟨rfl, rfl, HX.out.1, HX.out.2⟩
      · skip
        go_simp
        have g5 : Below wa.heap.size wa (wa.drew.alloc (.cells #[.int .i64 33, .int .u32 (d : Nat)] 48)) := hdr.alloc hdr.size _
        have hf5 := fils_one wa.drew (lastF d) hOL
        refine hK.out _ _ g5 (fun _ => ?_)
        clear hK K
        refine wpAnyH_ready (rs := [2]) (by kernel_rfl) (by simp) ?_
        refine (AllReadyH.cons (o := { dst := some 51, op := Op.call { callee := Callee.builtin Builtin.append, args := #[Operand.const (Value.slice none 0 0), Operand.tmp 50], argTypes := #[22, 22] }, type := 22, pos := "header.go:49", after := #[{ on := 1, ground := Ground.data }], guard := none }) rfl (fun K hK => ?_) AllReadyH.nil)
        refine step_append_fils rfl (.const (.slice none 0 0)) (.tmp 50) rfl wa.heap.size (wa.drew.alloc (.cells #[.int .i64 33, .int .u32 (d : Nat)] 48)) (.slice none 0 0) [] rfl (OwnF.nil _ _) A l c rfl (hFa.below g5) HSZ.out.1 g5.size ?_
        intro v5 w5 ho5 hg5
        have g6 : Below wa.heap.size wa w5 := below_grown g5 hg5 g5.size (fun g e => by cases e)
        have hf6 := hf5.below (below_grown (Below.refl _ _) hg5 (Nat.le_refl _) (fun g e => by cases e))
        simp only [Act.put, List.setIfInBounds_toArray, List.set_cons_zero, List.set_cons_succ]
        refine hK.out _ _ g6 (fun _ => ?_)
        clear hK K
        refine wpAnyH_ready (rs := [5]) (by kernel_rfl) (by simp) ?_
        refine (AllReadyH.cons (o := { dst := some 54, op := Op.call { callee := Callee.builtin Builtin.append, args := #[Operand.tmp 51, Operand.tmp 53], argTypes := #[22, 22] }, type := 22, pos := "header.go:49", after := #[{ on := 2, ground := Ground.data }, { on := 4, ground := Ground.data }, { on := 2, ground := Ground.chain }], guard := none }) rfl (fun K hK => ?_) AllReadyH.nil)
        refine step_append_fils rfl (.tmp 51) (.tmp 53) rfl wa.heap.size w5 v5 ([] ++ l) rfl ho5 (some ⟨wa.drew.heap.size, 0, none⟩) [lastF d] 1 rfl hf6 HSZ.out.2 g6.size ?_
        intro v7 w7 ho7 hg7
        have g7 : Below wa.heap.size wa w7 := below_grown g6 hg7 g6.size (fun g e => (ho5.lt g e).1)
        obtain ⟨A7, c7, rfl, _, _, _⟩ := ho7.read hOK7
        have HX := Lib.hid (HFIN.out A7 c7 w7 ho7 g7)
        simp only [Act.put, List.setIfInBounds_toArray, List.set_cons_zero, List.set_cons_succ]
        refine hK.out _ _ g7 (fun _ => ?_)
        clear hK K
        refine wpAnyH_ready (rs := [6]) (by kernel_rfl) (by simp) ?_
        refine (AllReadyH.cons (o := { dst := some 55, op := Op.call { callee := Callee.builtin Builtin.len, args := #[Operand.tmp 54], argTypes := #[22] }, type := 3, pos := "header.go:49", after := #[{ on := 5, ground := Ground.data }], guard := none }) rfl (fun K hK => ?_) AllReadyH.nil)
        go_simp
        refine hK.out _ _ g7 (fun _ => ?_)
        clear hK K
        refine wpAnyH_done (by kernel_rfl) ?_ _
        go_wp2_with fail
        go_meet
        exact ⟨rfl, rfl, HX.out.1, HX.out.2⟩
    case rest =>
    obtain ⟨rfl, rfl, ho7, hoi⟩ := hcut
    have HOK7 := Lib.hid (fun f hf => (HG.out f hf).1)
    have hl7 : (l ++ [lastF d]).length ≤ 4 := by simp; omega
    have hfl7 := filsB_length (l ++ [lastF d]) HG.out
    obtain ⟨A7, c7, rfl, hc7, hm7, _⟩ := ho7.read HOK7.out
    clear hlast hbx hxa hoa hFa hFl hba hx0 ho0 hbc j3 HCUT
    have hn7 : (l ++ [lastF d]).length = l.length + 1 := by simp
    have hi7 : ((l.length : Int) + 1) = ((l ++ [lastF d]).length : Int) := by rw [hn7]; omega
    rw [hi7]
    clear hn7 hi7
    generalize hL7 : l ++ [lastF d] = L7 at *
    go_wp2_with fail
    go_loopw [56] (fun i wr => ∃ j : Nat, j ≤ L7.length ∧ i = .int .i64 (j : Nat) ∧ Hid (OwnF w1.heap.size wr (.slice A7 L7.length c7) L7) ∧ Hid (OutI (w1.heap.size + 1) w1.heap.size w1 (pre ++ filsB (L7.take j)) wr)) (fun i _ => L7.length - (intOf i).toNat)
    case atStart => exact ⟨0, by omega, rfl, Lib.hid ho7, Lib.hid (by simpa [filsB] using hoi)⟩
    case round =>
      obtain ⟨j, hj, rfl, HO7, HOI⟩ := hrel
      by_cases hjl : j < L7.length
      · have hji : (j : Int) < (L7.length : Int) := by omega
        have hF7 := HO7.out.fils HOK7.out
        obtain ⟨b7, off7, rfl, hb7, hat⟩ := hF7.addr (by omega)
        have hfj := hat j hjl
        have hgj := HG.out L7[j] (List.getElem_mem hjl)
        have hnx : filsB (L7.take (j + 1)) = filsB (L7.take j) ++ (Vl.put 9 L7[j].id.toNat ++ (Vl.put 9 (propB L7[j]).length ++ propB L7[j])) := by
          rw [List.take_succ_eq_append_getElem hjl, filsB_snoc]; rfl
        have hft := filsB_length (L7.take j) (fun f hf => HG.out f (List.mem_of_mem_take hf))
        have hk1 := hfj.c0
        have hk2 := hfj.c1
        have hCB := cbytes_any L7[j] hfj.ok
        generalize L7[j] = f at *
        obtain ⟨id, n⟩ := f
        obtain ⟨hfok, hid0, hid1, hbl, hpl4⟩ := hgj
        simp only at hk1 hk2 hid0 hid1 hnx
        obtain ⟨mid, rfl⟩ := Int.eq_ofNat_of_zero_le hid0
        rw [hbl] at hCB
        have HCB := Lib.hid (show ∀ w', Calls Tryd.prog 17 #[.agg #[.int .i64 (mid : Int), .int .u32 (n : Nat)]] w' (GivesT w' (propB ⟨mid, n⟩) (.int .i64 0)) from hCB)
        rw [Int.toNat_natCast] at hnx
        generalize propB ⟨mid, n⟩ = PP at *
        obtain ⟨v, hx, ho, hb⟩ := HOI.out
        have hV1 := (Vl.put_length 9 mid).2
        have hV2 := (Vl.put_length 9 PP.length).2
        have htk : (L7.take j).length ≤ 4 := by simp; omega
        obtain ⟨L0, hL0⟩ : ∃ L0, pre ++ filsB (L7.take j) = L0 := ⟨_, rfl⟩
        have hL0l : L0.length ≤ 130 := by rw [← hL0, List.length_append]; omega
        rw [hL0] at ho
        have HNX : Hid (pre ++ filsB (L7.take (j + 1)) = L0 ++ Vl.put 9 mid ++ Vl.put 9 PP.length ++ PP) := Lib.hid (by rw [hnx, ← hL0]; simp only [List.append_assoc])
        obtain ⟨ww, hww⟩ : ∃ ww, wr.alloc (.cells #[.int .i64 (mid : Int), .int .u32 (n : Nat)] 48) = ww := ⟨_, rfl⟩
        have hb0w : Below wr.heap.size wr ww := by rw [← hww]; exact (Below.refl _ _).alloc (Nat.le_refl _) _
        have hszw : ww.heap.size = wr.heap.size + 1 := by rw [← hww]; simp
        have hq0 : ww.cell? ⟨wr.heap.size, 0, none⟩ = some (.int .i64 (mid : Int)) ∧ ww.cell? ⟨wr.heap.size, 1, none⟩ = some (.int .u32 (n : Nat)) := by rw [← hww]; exact ⟨by simp, by simp⟩
        have hb1w := hb.trans (hb0w.mono hb.size)
        have HQ := Lib.hid hq0
        have HWW := Lib.hid hww
        have hbolt : w1.heap.size + 1 < wr.heap.size := hx.lt
        clear hat hfj hnx hft hCB hfok hid0 hbl hL0 hq0
        go_upto_region 15 with fail
        clear hww
        obtain ⟨q0, q1⟩ := HQ.out
        go_wp2_with fail
        refine (HCB.out ww).mono ?_
        rintro e w3 ⟨vP, rfl, hoP, hb3⟩
        have hx3 := (hx.below hb0w).below hb3
        have ho3 := (ho.below hb0w).below hb3
        have hb13 : Below w1.heap.size w1 w3 := hb1w.trans (hb3.mono hb1w.size)
        have hO73 := (HO7.out.below hb0w).below hb3
        have hq3 : w3.cell? ⟨wr.heap.size, 0, none⟩ = some (.int .i64 (mid : Int)) := (hb3.cell (p := ⟨wr.heap.size, 0, none⟩) (by show wr.heap.size < ww.heap.size; omega)).trans HQ.out.1
        have hvlt : ∀ g, v.ownBlock = some g → g < wr.heap.size := fun g e => (ho.from_base g e).2
        have hPge : ∀ g, vP.ownBlock = some g → wr.heap.size < g ∧ g < w3.heap.size := fun g e => by have := hoP.from_base g e; omega
        have HVL := Lib.hid (And.intro hvlt hPge)
        have HN1 := Lib.hid (num_any (w1.heap.size + 1) w1.heap.size v L0 mid w3 hx3 ho3 (by omega) (by omega) (by omega))
        have HOP3 := Lib.hid hoP
        obtain ⟨AP, cP, rfl, hcP, hmP, _⟩ := hoP.read
        have hw13 := hb13.size
        clear hvlt hPge q0 q1 hb1w hb0w hx ho hb
        go_wp2_with fail
        refine HN1.out.mono ?_
        rintro e w4 ⟨v4, rfl, hx4, ho4, hb4, hk4, hl4⟩
        have hne4 : ∀ g, (Value.slice AP PP.length cP).ownBlock = some g → g ≠ w1.heap.size + 1 ∧ v.ownBlock ≠ some g := fun g e => by
          have h1 := HVL.out.2 g e
          exact ⟨by omega, fun e2 => by have := HVL.out.1 g e2; omega⟩
        have hoP4 := HOP3.out.keep (fun g e => hk4 g (HVL.out.2 g e).2 (hne4 g e).1 (hne4 g e).2)
        have hO74 := hO73.keep (fun g e => hk4 g (hO73.lt g e).2 (hO73.ne_box hx3 g e) (hO73.ne ho3 g e))
        have hb14 : Below w1.heap.size w1 w4 := hb13.trans hb4
        have HN2 := Lib.hid (num_any (w1.heap.size + 1) w1.heap.size v4 _ PP.length w4 hx4 ho4 (by omega) (by omega) (by simp only [List.length_append]; omega))
        have HS43 := Lib.hid (hb4.size)
        clear hk4 HN1 hq3
        go_wp2_with fail
        refine HN2.out.mono ?_
        rintro e w5 ⟨v5, rfl, hx5, ho5, hb5, hk5, hl5⟩
        have hne5 : ∀ g, (Value.slice AP PP.length cP).ownBlock = some g → v4.ownBlock ≠ some g := fun g e e2 => by
          rcases hl4 g e2 with h | h
          · exact (hne4 g e).2 h
          · have := (HVL.out.2 g e).2; omega
        have hoP5 := hoP4.keep (fun g e => hk5 g (Nat.lt_of_lt_of_le (HVL.out.2 g e).2 HS43.out) (hne4 g e).1 (hne5 g e))
        have hO75 := hO74.keep (fun g e => hk5 g (hO74.lt g e).2 (hO74.ne_box hx4 g e) (hO74.ne ho4 g e))
        have hb15 : Below w1.heap.size w1 w5 := hb14.trans hb5
        obtain ⟨A5, c5, e5, _, _, hB5⟩ := hoP5.read
        obtain ⟨rfl, rfl⟩ : AP = A5 ∧ cP = c5 := by injection e5 with e1 e2 e3; exact ⟨e1, e3⟩
        obtain ⟨L5, hL5⟩ : ∃ L5, L0 ++ Vl.put 9 mid ++ Vl.put 9 PP.length = L5 := ⟨_, rfl⟩
        have hL5l : L5.length ≤ 150 := by rw [← hL5]; simp only [List.length_append]; omega
        rw [hL5] at ho5 HNX
        have hxc5 := hx5.cell
        have HSZ5 : Hid (L5.length + PP.length ≤ 140737488355328) := Lib.hid (by omega)
        clear hk5 hne4 hne5 hL5 HN2 hl4 hl5 hO73 hO74 ho4 ho3 hx3 hx4 HVL
        go_wp2_with (at_builtin; refine wpList_append_bytes rfl (.tmp 78) (.tmp 79) rfl w1.heap.size _ v5 L5 rfl ho5 AP PP cP rfl hB5 HSZ5.out hb15.size ?_; intro v6 w6 ho6 hg6; have hx6 := hx5.grown hg6 (fun e => hx5.ne ho5 e); have hcl6 := hx6.cell; have hfz6 := hx6.frozen; have hb16 : Below w1.heap.size w1 w6 := below_grown hb15 hg6 hb15.size (fun g e => (ho5.from_base g e).1); have hO76 := hO75.keep (fun g e => hg6.block g (hO75.lt g e).2 (fun e2 => hO75.ne ho5 g e e2.symm)); obtain ⟨A6, c6, rfl, _, _, _⟩ := ho6.read; rw [List.length_append] at ho6)
        have hO7f := hO76.keep (w' := w6.setCell ⟨w1.heap.size + 1, 0, none⟩ (.slice A6 (L5.length + PP.length) c6)) (fun g e => heap_setCell_other _ _ _ _ (fun e2 => hO76.ne_box hx6 g e e2))
        exact ⟨⟨j + 1, by omega, by go_num, Lib.hid hO7f, Lib.hid ⟨_, hx6.set _, by rw [HNX.out]; exact ho6.setBox hx6 _, Below.setCell hb16 (by show w1.heap.size ≤ w1.heap.size + 1; omega) _⟩⟩, by simp [intOf]; omega⟩
      · obtain rfl : j = L7.length := by omega
        rw [List.take_length, HOPN.out] at HOI
        have hlen : 0 < (openB ⟨p, q, l, d⟩).length ∧ (openB ⟨p, q, l, d⟩).length ≤ 130 := by
          rw [← HOPN.out, List.length_append]
          have h1 := hfl7
          refine ⟨?_, by omega⟩
          have h2 : 0 < (openB ⟨p, q, l, d⟩).length := by simp [openB]
          rw [← HOPN.out, List.length_append] at h2
          exact h2
        have HPD := Lib.hid (show padB (openB ⟨p, q, l, d⟩) = openB ⟨p, q, l, d⟩ ++ List.replicate (zerosN (openB ⟨p, q, l, d⟩).length) 0 from rfl)
        have hz4 : zerosN (openB ⟨p, q, l, d⟩).length < 4 := by unfold zerosN; omega
        have hzq : ((openB ⟨p, q, l, d⟩).length + zerosN (openB ⟨p, q, l, d⟩).length) % 4 = 0 := by unfold zerosN; omega
        have hopc : ∃ r, openB ⟨p, q, l, d⟩ = 0 :: r := ⟨_, rfl⟩
        generalize zerosN (openB ⟨p, q, l, d⟩).length = Z at *
        generalize openB ⟨p, q, l, d⟩ = BD at *
        clear HOPN hfl7 hpl hjl
        go_wp2_with fail
        go_loopw [] (fun wr => ∃ t : Nat, t ≤ Z ∧ OutI (w1.heap.size + 1) w1.heap.size w1 (BD ++ List.replicate t 0) wr ∧ boxLen (w1.heap.size + 1) wr = BD.length + t) (fun wr => BD.length + Z - boxLen (w1.heap.size + 1) wr)
        case atStart =>
          refine ⟨0, by omega, by simpa using HOI.out, ?_⟩
          obtain ⟨v, hx, ho, _⟩ := HOI.out
          obtain ⟨A0, c0, rfl, _, _, _⟩ := ho.read
          exact hx.len
        case round =>
          obtain ⟨t, ht, hoi2, hbl2⟩ := hrel
          obtain ⟨O, hO⟩ : ∃ O, BD ++ List.replicate t (0 : UInt8) = O := ⟨_, rfl⟩
          have hOl : O.length = BD.length + t := by rw [← hO]; simp
          rw [hO] at hoi2
          obtain ⟨v, hx, ho, hb⟩ := hoi2
          obtain ⟨g, cc, rfl, hg, hglt, hcc, hcm, hcell, hfz⟩ := ho.opened (by omega)
          have hxc := hx.cell
          have hgb : g ≠ w1.heap.size + 1 := fun e => hx.ne ho (by rw [e]; rfl)
          by_cases htz : t < Z
          · have hm4 : ¬ (O.length : Int) % 4 = 0 := by omega
            have hoA := ho.alloc (.cells #[.int .u8 0] 5)
            have hxA : Box (w1.heap.size + 1) (wr.alloc (.cells #[.int .u8 0] 5)) _ := hx.below ((Below.refl _ _).alloc (Nat.le_refl _) _)
            have hbA : Below w1.heap.size w1 (wr.alloc (.cells #[.int .u8 0] 5)) := hb.alloc hb.size _
            have hBA : Bytes (wr.alloc (.cells #[.int .u8 0] 5)) (some ⟨wr.heap.size, 0, none⟩) [0] := .inr ⟨wr.heap.size, 0, rfl, by simp, by
              intro k hk
              obtain rfl : k = 0 := by simpa using hk
              simp⟩
            have HSZ : Hid (O.length + [(0 : UInt8)].length ≤ 140737488355328) := Lib.hid (by simp; omega)
            have HNX : Hid (O ++ [0] = BD ++ List.replicate (t + 1) 0) := Lib.hid (by rw [← hO, List.replicate_succ', List.append_assoc])
            have HOL := Lib.hid hOl
            have HBL := Lib.hid hbl2
            clear hO hcell hfz hx ho hzq hz4 hbl2 hOl hopc
            go_wp2_with (at_builtin; refine wpList_append_bytes rfl (.tmp 86) (.tmp 87) rfl w1.heap.size _ _ O rfl hoA (some ⟨wr.heap.size, 0, none⟩) [0] 1 rfl hBA HSZ.out hbA.size ?_; intro v8 w8 ho8 hg8; have hx8 := hxA.grown hg8 (fun e => hxA.ne hoA e); have hcl8 := hx8.cell; have hfz8 := hx8.frozen; have hb8 : Below w1.heap.size w1 w8 := below_grown hbA hg8 hbA.size (fun g e => (hoA.from_base g e).1); obtain ⟨A8, c8, rfl, _, _, _⟩ := ho8.read; rw [show (O ++ [(0 : UInt8)]).length = O.length + 1 by simp] at ho8)
            have hnew := hx8.set (.slice A8 (O.length + 1) c8)
            have hno := ho8.setBox hx8 (.slice A8 (O.length + 1) c8)
            rw [HNX.out] at hno
            have hnl := hnew.len
            have hOl := HOL.out
            have hbl2 := HBL.out
            exact ⟨⟨t + 1, by omega, ⟨_, hnew, hno, Below.setCell hb8 (by show w1.heap.size ≤ w1.heap.size + 1; omega) _⟩, by rw [hnl]; omega⟩, by rw [hnl, hbl2]; omega⟩
          · obtain rfl : t = Z := by omega
            have hm4 : (O.length : Int) % 4 = 0 := by omega
            obtain ⟨M, hM⟩ : ∃ M, O.length / 4 = M := ⟨_, rfl⟩
            have hMi : (O.length : Int) = 4 * (M : Int) := by omega
            have hMb : M < 256 := by omega
            obtain ⟨r0, hr0⟩ := hopc
            obtain ⟨r, hr⟩ : ∃ r, O = 0 :: r := ⟨r0 ++ List.replicate t 0, by rw [← hO, hr0]; rfl⟩
            have hPO : padB BD = O := by rw [HPD.out]; exact hO
            have HBO : Hid (bodyH ⟨p, q, l, d⟩ = UInt8.ofNat M :: r) := Lib.hid (by
              rw [HBH.out, hPO, hM, hr]; rfl)
            have hq1 : (4 * (M : Int) + 4) / 4 = (M : Int) + 1 := by omega
            have hwm : IntKind.u8.wrap (M : Int) = (M : Int) := by rw [IntKind.wrap_u8]; omega
            obtain ⟨NO, hNO⟩ : ∃ NO, O.length = NO := ⟨_, rfl⟩
            have hrl : (UInt8.ofNat M :: r).length = NO := by rw [← hNO, hr]; simp
            rw [hNO] at hx ho hcc hxc hMi hm4
            rw [hr] at ho
            have hst := first_set hx ho hb hg hgb M hMb
            have hf0 := hfz 0
            have hc0 : wr.cell? ⟨g, 0, none⟩ = some (.int .u8 0) := by
              have h := hcell 0 (by rw [hr]; simp)
              rw [h]; simp [hr]
            have hNOi : (0 : Int) < (NO : Int) := by omega
            have hcci : (NO : Int) ≤ (cc : Int) := by omega
            have HST := Lib.hid hst
            have hxc2 := hst.1.cell
            have hNOb : NO ≤ 1000 := by omega
            clear hPO hO hr hr0 htz hz4 hzq hcell hfz hx ho hb hM HPD hbl2 hst hOl hNO
            rw [hMi] at hm4
            go_upto_region 25 with fail
            obtain ⟨hx5, ho5, hb5⟩ := HST.out
            generalize wr.setCell ⟨g, 0, none⟩ (.int .u8 (M : Nat)) = w5 at hx5 ho5 hb5 ⊢
            rw [← HBO.out] at hrl ho5
            generalize bodyH ⟨p, q, l, d⟩ = BH at *
            have hB5 : Bytes w5 (some ⟨g, 0, none⟩) BH := by
              rw [← hrl] at ho5
              obtain ⟨A6, c6, e6, _, _, hb6⟩ := ho5.read
              injection e6 with e1 e2 e3
              rw [e1]; exact hb6
            have HS := Lib.hid (show ∀ w', Bytes w' (some ⟨g, 0, none⟩) BH → Calls Tryd.prog 18 #[.int .i64 1, .slice (some ⟨g, 0, none⟩) NO cc] w' (BytesDone w' (sum1 BH)) from fun w' h => by
              have := chk1_any (some ⟨g, 0, none⟩) BH cc w' h (by omega) hcm
              rwa [hrl] at this)
            have hd5 : Below w5.heap.size w5 w5.drew := below_drew w5
            have hd15 : Below w1.heap.size w1 w5.drew := hb5.trans (hd5.mono hb5.size)
            have HX5 : Hid (Box (w1.heap.size + 1) w5.drew (.slice (some ⟨g, 0, none⟩) NO cc)) := Lib.hid hx5
            have HNS : Hid (BH.length + (sum1 BH).length ≤ 140737488355328) := Lib.hid (by have := sum1_length BH; omega)
            clear hxc hxc2 hc0 hf0 hq1 hwm hMi hm4
            refine wp_region_held_drew (S := fun w' => Box (w1.heap.size + 1) w' (.slice (some ⟨g, 0, none⟩) NO cc) ∧ Below w1.heap.size w1 w') (by kernel_rfl) ⟨HX5.out, hd15⟩ (fun hS => ?_)
            refine wpAnyH_take (i := 0) (oi := { dst := some 97, op := Op.load 26 (Operand.tmp 4), type := 26, pos := "header.go:62", after := #[], guard := none }) (v := ?vpf5) rfl (by kernel_rfl) (by kernel_rfl) (by kernel_rfl) (fun _ _ _ h => h) (Or.inl ⟨by rfl, ?ypf5⟩) hS ?_
            case ypf5 =>
              intro w hSw
              have k := hSw.1.cell
              go_simp; all_goals (with_reducible rfl)
            simp only [Act.put, List.setIfInBounds_toArray, List.set_cons_zero, List.set_cons_succ]
            refine wpAnyH_take (i := 1) (oi := { dst := some 98, op := Op.load 26 (Operand.tmp 4), type := 26, pos := "header.go:62", after := #[], guard := none }) (v := ?vpf6) rfl (by kernel_rfl) (by kernel_rfl) (by kernel_rfl) (fun _ _ _ h => h) (Or.inl ⟨by rfl, ?ypf6⟩) hS ?_
            case ypf6 =>
              intro w hSw
              have k := hSw.1.cell
              go_simp; all_goals (with_reducible rfl)
            simp only [Act.put, List.setIfInBounds_toArray, List.set_cons_zero, List.set_cons_succ]
            refine wpAnyH_ready (rs := [2]) (by kernel_rfl) (by simp) ?_
            refine (AllReadyH.cons (o := { dst := some 99, op := Op.call { callee := Callee.value (Operand.func 18), args := #[Operand.const (Value.int IntKind.i64 1), Operand.tmp 98], argTypes := #[3, 26] }, type := 26, pos := "header.go:62", after := #[{ on := 1, ground := Ground.data }], guard := none }) rfl (fun K hK => ?_) AllReadyH.nil)
            go_simp
            refine (HS.out w5.drew (hB5.below hd5)).mono ?_
            rintro e w6 ⟨A6, c6, rfl, hc6, hm6, hB6, hb6⟩
            have g6 : Below w5.heap.size w5 w6 := hd5.trans (hb6.mono hd5.size)
            have hx6 := hx5.below g6
            have ho6 := ho5.below g6
            have hb16 := hb5.trans (g6.mono hb5.size)
            go_wp2_with fail
            refine hK.out _ _ ⟨hx6, hb16⟩ (fun _ => ?_)
            clear hK K
            refine wpAnyH_ready (rs := [3]) (by kernel_rfl) (by simp) ?_
            refine (AllReadyH.cons (o := { dst := some 100, op := Op.call { callee := Callee.builtin Builtin.append, args := #[Operand.tmp 97, Operand.tmp 99], argTypes := #[26, 26] }, type := 26, pos := "header.go:62", after := #[{ on := 0, ground := Ground.data }, { on := 2, ground := Ground.data }, { on := 2, ground := Ground.chain }], guard := none }) rfl (fun K hK => ?_) AllReadyH.nil)
            refine step_append_bytes rfl (.tmp 97) (.tmp 99) rfl w1.heap.size w6 (.slice (some ⟨g, 0, none⟩) NO cc) BH rfl ho6 A6 (sum1 BH) c6 rfl hB6 HNS.out hb16.size ?_
            intro v7 w7 ho7 hg7
            have hx7 := hx6.grown hg7 (fun e => hx6.ne ho6 e)
            have g7 : Below w1.heap.size w1 w7 := below_grown hb16 hg7 hb16.size (fun g e => (ho6.from_base g e).1)
            simp only [Act.put, List.setIfInBounds_toArray, List.set_cons_zero, List.set_cons_succ]
            refine hK.out _ _ ⟨hx7, g7⟩ (fun _ => ?_)
            clear hK K
            refine wpAnyH_ready (rs := [4]) (by kernel_rfl) (by simp) ?_
            refine (AllReadyH.cons (o := { dst := some 2, op := Op.assign (Operand.tmp 100), type := 26, pos := "header.go:62", after := #[{ on := 3, ground := Ground.data }, { on := 3, ground := Ground.chain }, { on := 0, ground := Ground.phase }, { on := 1, ground := Ground.phase }, { on := 2, ground := Ground.phase }, { on := 3, ground := Ground.phase }], guard := none }) rfl (fun K hK => ?_) AllReadyH.nil)
            go_simp
            refine hK.out _ _ ⟨hx7, g7⟩ (fun _ => ?_)
            clear hK K
            refine wpAnyH_ready (rs := [5]) (by kernel_rfl) (by simp) ?_
            refine (AllReadyH.cons (o := { dst := some 3, op := Op.assign (Operand.const (Value.int IntKind.i64 0)), type := 28, pos := "header.go:62", after := #[{ on := 4, ground := Ground.chain }, { on := 0, ground := Ground.phase }, { on := 1, ground := Ground.phase }, { on := 2, ground := Ground.phase }, { on := 3, ground := Ground.phase }, { on := 4, ground := Ground.phase }], guard := none }) rfl (fun K hK => ?_) AllReadyH.nil)
            go_simp
            refine hK.out _ _ ⟨hx7, g7⟩ (fun _ => ?_)
            clear hK K
            refine wpAnyH_done (by kernel_rfl) ?_ _
            go_wp2_with fail
            go_ret2
            exact .inl ⟨hv, _, rfl, by rw [HPH.out]; exact ho7.weaken HB1.out.size, HB1.out.trans (g7.mono HB1.out.size)⟩
end Go.Proofs.YtaggkcgeddoogaaDoor
