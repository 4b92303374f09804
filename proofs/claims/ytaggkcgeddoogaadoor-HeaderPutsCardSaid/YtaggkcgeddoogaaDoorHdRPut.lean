/- The reference: Put. -/
import Derived.Test.YtaggkcgeddoogaaDoorHdRMay
import Derived.Deep.DeepCutAuto
namespace Go.Proofs.YtaggkcgeddoogaaDoor
open Go.RowKit

theorem bodyH_eq (h : HeadM) : bodyH h = UInt8.ofNat (((restB h ++ List.replicate (zerosN ((restB h).length + 2)) 0).length + 2) / 4) :: UInt8.ofNat (secondB h) :: (restB h ++ List.replicate (zerosN ((restB h).length + 2)) 0) := by
  have e1 : (openB h).length = (restB h).length + 2 := by simp [openB]
  have e2 : padB (openB h) = 0 :: UInt8.ofNat (secondB h) :: (restB h ++ List.replicate (zerosN ((restB h).length + 2)) 0) := by
    unfold padB; rw [e1]; rfl
  unfold bodyH
  rw [e2]
  simp
/-- A slice value's length. -/
def lenV : Value → Nat
  | .slice _ n _ => n
  | _ => 0
set_option maxRecDepth 100000 in
set_option maxHeartbeats 4000000 in
theorem rhput_any (h : HeadM) (hok : h.ok) (hfo : ∀ f ∈ h.l, f.ok) (hv : validB h = true) (A : Option Addr) (c : Nat) (w : World) (hF0 : Fils w A h.l) :
    Calls Tryd.prog 10 #[headV h A c] w (OwnDone w (putH h)) := by
  obtain ⟨hg1, hg2, hg3, hg4⟩ := good_all h hok hfo hv
  have HG := Lib.hid hg1
  have HBD := Lib.hid (bodyH_eq h)
  have HPH := Lib.hid (show putH h = bodyH h ++ sum1 (bodyH h) from rfl)
  have HSE := Lib.hid (show secondB h = h.l.length + (if h.p = -1 then 0 else 64) + (if h.q = -1 then 0 else 128) from rfl)
  have HRE := Lib.hid (show restB h = optB h.p ++ optB h.q ++ filsB (h.l ++ [lastF h.d]) from rfl)
  obtain ⟨p, q, l, d⟩ := h
  obtain ⟨o1, o2, o3, o4, o5⟩ : -9223372036854775808 ≤ p ∧ p ≤ 9223372036854775807 ∧ -9223372036854775808 ≤ q ∧ q ≤ 9223372036854775807 ∧ d < 4294967296 := hok
  simp only at HSE HRE hg2 hg3 hg4 HG
  obtain ⟨W0, hW0⟩ : ∃ W0, w.alloc (.cells #[.int .i64 p, .int .i64 q, .slice A l.length c, .int .u32 (d : Nat)] 32) = W0 := ⟨_, rfl⟩
  have hb0 : Below w.heap.size w W0 := by rw [← hW0]; exact (Below.refl _ _).alloc (Nat.le_refl _) _
  have hlt0 : w.heap.size < W0.heap.size := by rw [← hW0]; simp
  have hcs : W0.cell? ⟨w.heap.size, 0, none⟩ = some (.int .i64 p) ∧ W0.cell? ⟨w.heap.size, 1, none⟩ = some (.int .i64 q) ∧ W0.cell? ⟨w.heap.size, 2, none⟩ = some (.slice A l.length c) ∧ W0.cell? ⟨w.heap.size, 3, none⟩ = some (.int .u32 (d : Nat)) := by
    rw [← hW0]; exact ⟨by simp, by simp, by simp, by simp⟩
  have HW0 := Lib.hid hW0
  have HCS := Lib.hid (fun (wx : World) (hb : Below W0.heap.size W0 wx) => (show wx.cell? ⟨w.heap.size, 0, none⟩ = some (.int .i64 p) ∧ wx.cell? ⟨w.heap.size, 1, none⟩ = some (.int .i64 q) ∧ wx.cell? ⟨w.heap.size, 2, none⟩ = some (.slice A l.length c) ∧ wx.cell? ⟨w.heap.size, 3, none⟩ = some (.int .u32 (d : Nat)) from
    ⟨(hb.cell (p := ⟨w.heap.size, 0, none⟩) hlt0).trans hcs.1, (hb.cell (p := ⟨w.heap.size, 1, none⟩) hlt0).trans hcs.2.1, (hb.cell (p := ⟨w.heap.size, 2, none⟩) hlt0).trans hcs.2.2.1, (hb.cell (p := ⟨w.heap.size, 3, none⟩) hlt0).trans hcs.2.2.2⟩))
  have HF := Lib.hid (fun (wx : World) (hb : Below W0.heap.size W0 wx) => (hF0.below hb0).below hb)
  have HRP := Lib.hid (fun (n : Nat) (w' : World) (h : n ≤ 9223372036854775807) => rput_any 9 n w' (by omega) (Nat.lt_of_le_of_lt h (by decide)) (by omega))
  obtain ⟨k0, _, k2, _⟩ := hcs
  have hli : (l.length : Int) ≤ 3 := by omega
  clear hW0 hg1
  go_enter Tryd.func10, Tryd.ntmps10
  go_upto_region 1 with fail
  rw [HW0.out]
  clear HW0
  go_upto_if 12 with fail
  go_cut [3, 4] from 7 (fun s3 s4 wx => s3 = .int .i64 ((l.length + (if p = -1 then 0 else 64) : Nat) : Int) ∧ Own W0.heap.size wx s4 (optB p) ∧ Below W0.heap.size W0 wx)
  case first =>
    by_cases hp : p = -1
    · subst hp
      go_wp2_with fail
      go_meet
      exact ⟨by simp, Own.nil _ _, Below.refl _ _⟩
    · have hpo : Hid (optB p = Vl.put 9 p.toNat) := Lib.hid (by unfold optB; rw [if_neg hp])
      have hpi : Hid ((if p = -1 then 0 else 64) = (64 : Nat)) := Lib.hid (by rw [if_neg hp])
      obtain ⟨m, rfl⟩ := Int.eq_ofNat_of_zero_le (show 0 ≤ p by omega)
      have HP := Lib.hid (HRP.out m W0 (by omega))
      have hV := (Vl.put_length 9 m).2
      clear hp hg3
      go_wp2_with fail
      refine HP.out.mono ?_
      rintro e w1 ⟨v1, rfl, ho1, hb1⟩
      obtain ⟨A1, c1, rfl, hc1, hm1, hB1⟩ := ho1.read
      have HSZ : Hid (([] : List UInt8).length + (Vl.put 9 m).length ≤ 140737488355328) := Lib.hid (by simp; omega)
      go_wp2_with (at_builtin; refine wpList_append_bytes rfl (.tmp 15) (.tmp 19) rfl W0.heap.size w1 (.slice none 0 0) [] rfl (Own.nil _ _) A1 (Vl.put 9 m) c1 rfl hB1 HSZ.out hb1.size ?_; intro v2 w2 ho2 hg2)
      go_meet
      refine ⟨by rw [hpi.out]; simp, ?_, below_grown hb1 hg2 hb1.size (fun g e => by cases e)⟩
      rw [hpo.out]
      exact ho2
  case rest =>
  obtain ⟨rfl, ho1, hb1⟩ := hcut
  obtain ⟨s1, hs1⟩ : ∃ s1, l.length + (if p = -1 then 0 else 64) = s1 := ⟨_, rfl⟩
  have hs1b : s1 ≤ 67 := by rw [← hs1]; split <;> omega
  rw [hs1]
  rw [hs1] at HSE
  have hopl := optB_length p
  have HO1 := Lib.hid ho1
  have HB1 := Lib.hid hb1
  obtain ⟨_, j1, _, _⟩ := HCS.out wc hb1
  clear hs1 k0 k2 ho1 hb1
  go_upto_if 23 with fail
  go_cut [3, 4] from 7 (fun s3 s4 wx => s3 = .int .i64 ((s1 + (if q = -1 then 0 else 128) : Nat) : Int) ∧ Own W0.heap.size wx s4 (optB p ++ optB q) ∧ Below W0.heap.size W0 wx)
  case first =>
    by_cases hq : q = -1
    · subst hq
      go_wp2_with fail
      go_meet
      exact ⟨by simp, by rw [show optB (-1) = [] from rfl, List.append_nil]; exact HO1.out, HB1.out⟩
    · have hpo : Hid (optB q = Vl.put 9 q.toNat) := Lib.hid (by unfold optB; rw [if_neg hq])
      have hpi : Hid ((if q = -1 then 0 else 128) = (128 : Nat)) := Lib.hid (by rw [if_neg hq])
      obtain ⟨m, rfl⟩ := Int.eq_ofNat_of_zero_le (show 0 ≤ q by omega)
      have HP := Lib.hid (HRP.out m wc (by omega))
      have hV := (Vl.put_length 9 m).2
      clear hq hg4
      go_wp2_with fail
      refine HP.out.mono ?_
      rintro e w1 ⟨v1, rfl, ho1, hb1⟩
      obtain ⟨A1, c1, rfl, hc1, hm1, hB1⟩ := ho1.read
      have hoo := HO1.out.below hb1
      have hbb := HB1.out.trans (hb1.mono HB1.out.size)
      have HSZ : Hid ((optB p).length + (Vl.put 9 m).length ≤ 140737488355328) := Lib.hid (by omega)
      go_wp2_with (at_builtin; refine wpList_append_bytes rfl (.tmp 26) (.tmp 30) rfl W0.heap.size w1 _ (optB p) rfl hoo A1 (Vl.put 9 m) c1 rfl hB1 HSZ.out hbb.size ?_; intro v2 w2 ho2 hg2)
      go_meet
      refine ⟨by rw [hpi.out]; simp, ?_, below_grown hbb hg2 hbb.size (fun g e => (hoo.from_base g e).1)⟩
      rw [hpo.out]
      exact ho2
  case rest =>
  obtain ⟨rfl, ho2, hb2⟩ := hcut
  obtain ⟨s2, hs2⟩ : ∃ s2, s1 + (if q = -1 then 0 else 128) = s2 := ⟨_, rfl⟩
  have hs2b : s2 ≤ 195 := by rw [← hs2]; split <;> omega
  rw [hs2]
  rw [hs2] at HSE
  have hoql := optB_length q
  have hprl : (optB p ++ optB q).length ≤ 20 := by simp only [List.length_append]; omega
  have hfl := filsB_length (l ++ [lastF d]) HG.out
  have hl4 : (l ++ [lastF d]).length ≤ 4 := by simp; omega
  have HFL : Hid (∀ k, (filsB (l.take k)).length ≤ 72) := Lib.hid (fun k => by
    have := filsB_length (l.take k) (fun f hf => HG.out f (List.mem_append_left _ (List.mem_of_mem_take hf)))
    have h2 : (l.take k).length ≤ 3 := by simp; omega
    omega)
  generalize optB p ++ optB q = pre at *
  have HB2 := Lib.hid hb2
  have hk2 := (HCS.out wc hb2).2.2.1
  clear hs2 HO1 HB1 j1 hopl hoql hb2
  go_wp2_with fail
  go_loopw [4, 5] (fun lv i wr => ∃ j : Nat, j ≤ l.length ∧ i = .int .i64 (j : Nat) ∧ Own W0.heap.size wr lv (pre ++ filsB (l.take j)) ∧ Hid (Below W0.heap.size W0 wr)) (fun _ i _ => l.length - (intOf i).toNat)
  case atStart => exact ⟨0, by omega, rfl, by simpa [filsB] using ho2, HB2⟩
  case round =>
    obtain ⟨j, hj, rfl, hown, HBR⟩ := hrel
    have hk2r := (HCS.out wr HBR.out).2.2.1
    by_cases hjl : j < l.length
    · have hji : (j : Int) < (l.length : Int) := by omega
      obtain ⟨b, off, rfl, hb, hat⟩ := (HF.out wr HBR.out).addr (by omega)
      have hfj := hat j hjl
      have hnx : filsB (l.take (j + 1)) = filsB (l.take j) ++ filB l[j] := by rw [List.take_succ_eq_append_getElem hjl, filsB_snoc]
      have hgj := HG.out l[j] (List.mem_append_left _ (List.getElem_mem hjl))
      have hfb := filB_length _ hgj
      have HRF := Lib.hid (rfilter_any l[j] hgj wr)
      have c0 := hfj.c0
      have c1 := hfj.c1
      generalize l[j] = f at *
      obtain ⟨id, n⟩ := f
      simp only at c0 c1
      have hft := HFL.out j
      have HSZ : Hid ((pre ++ filsB (l.take j)).length + (filB ⟨id, n⟩).length ≤ 140737488355328) := Lib.hid (by simp only [List.length_append]; omega)
      clear hat hfj hgj hk2
      go_wp2_with fail
      refine HRF.out.mono ?_
      rintro e w3 ⟨v3, rfl, ho3, hb3⟩
      obtain ⟨A3, c3, rfl, hc3, hm3, hB3⟩ := ho3.read
      have hown3 := hown.below hb3
      have hbr3 : Below W0.heap.size W0 w3 := HBR.out.trans (hb3.mono HBR.out.size)
      go_wp2_with (at_builtin; refine wpList_append_bytes rfl (.tmp 39) (.tmp 45) rfl W0.heap.size w3 _ (pre ++ filsB (l.take j)) rfl hown3 A3 (filB ⟨id, n⟩) c3 rfl hB3 HSZ.out hbr3.size ?_; intro v4 w4 ho4 hg4; have hbr4 : Below W0.heap.size W0 w4 := below_grown hbr3 hg4 hbr3.size (fun g e => (hown3.from_base g e).1))
      exact ⟨⟨j + 1, by omega, by go_num, by rw [hnx, ← List.append_assoc]; exact ho4, Lib.hid hbr4⟩, by simp [intOf]; omega⟩
    · obtain rfl : j = l.length := by omega
      rw [List.take_length] at hown
      have hgl := HG.out (lastF d) (by simp)
      have hfb := filB_length _ hgl
      have HRF := Lib.hid (show Calls Tryd.prog 29 #[.agg #[.int .i64 33, .int .u32 (d : Nat)]] wr (OwnDone wr (filB (lastF d))) from rfilter_any (lastF d) hgl wr)
      have hk3r := (HCS.out wr HBR.out).2.2.2
      have hfp : (filsB l).length ≤ 72 := by have := HFL.out l.length; rwa [List.take_length] at this
      have HSZ : Hid ((pre ++ filsB l).length + (filB (lastF d)).length ≤ 140737488355328) := Lib.hid (by simp only [List.length_append]; omega)
      have hrb : restB ⟨p, q, l, d⟩ = pre ++ filsB l ++ filB (lastF d) := by rw [HRE.out, filsB_snoc, List.append_assoc]
      have hrbl : (restB ⟨p, q, l, d⟩).length ≤ 116 := by rw [hrb]; simp only [List.length_append]; omega
      have HRB := Lib.hid hrb
      clear hjl hgl hk2 hrb
      go_wp2_with fail
      refine HRF.out.mono ?_
      rintro e w3 ⟨v3, rfl, ho3, hb3⟩
      obtain ⟨A3, c3, rfl, hc3, hm3, hB3⟩ := ho3.read
      have hown3 := hown.below hb3
      have hbr3 : Below W0.heap.size W0 w3 := HBR.out.trans (hb3.mono HBR.out.size)
      go_wp2_with (at_builtin; refine wpList_append_bytes rfl (.tmp 47) (.tmp 51) rfl W0.heap.size w3 _ (pre ++ filsB l) rfl hown3 A3 (filB (lastF d)) c3 rfl hB3 HSZ.out hbr3.size ?_; intro v4 w4 ho4 hg4; have hbr4 : Below W0.heap.size W0 w4 := below_grown hbr3 hg4 hbr3.size (fun g e => (hown3.from_base g e).1))
      rw [← HRB.out] at ho4
      have HSB : Hid (secondB ⟨p, q, l, d⟩ = s2) := Lib.hid HSE.out
      have hz4 : zerosN ((restB ⟨p, q, l, d⟩).length + 2) < 4 := by unfold zerosN; omega
      have hzq : ((restB ⟨p, q, l, d⟩).length + 2 + zerosN ((restB ⟨p, q, l, d⟩).length + 2)) % 4 = 0 := by unfold zerosN; omega
      generalize zerosN ((restB ⟨p, q, l, d⟩).length + 2) = Z at *
      generalize restB ⟨p, q, l, d⟩ = RB at *
      have HB4 := Lib.hid hbr4
      clear hown hown3 hbr3 hB3 ho3 hg4 hb3 hbr4 hfp hfb HFL hfl hl4 hprl
      go_loopw [4] (fun lv wr => ∃ t : Nat, t ≤ Z ∧ Own W0.heap.size wr lv (RB ++ List.replicate t 0) ∧ Hid (Below W0.heap.size W0 wr) ∧ lenV lv = RB.length + t) (fun lv _ => RB.length + Z - lenV lv)
      case atStart =>
        obtain ⟨A0, c0, rfl, _, _, _⟩ := ho4.read
        exact ⟨0, by omega, by simpa using ho4, HB4, rfl⟩
      case round =>
        obtain ⟨t, ht, hown2, hbr2, hlv⟩ := hrel
        obtain ⟨O, hO⟩ : ∃ O, RB ++ List.replicate t (0 : UInt8) = O := ⟨_, rfl⟩
        have hOl : O.length = RB.length + t := by rw [← hO]; simp
        rw [hO] at hown2
        obtain ⟨A7, c7, rfl, hc7, hm7, hB7⟩ := hown2.read
        by_cases htz : t < Z
        · have hm4 : ¬ (O.length : Int) % 4 = 2 := by omega
          have hownA := hown2.alloc (.cells #[.int .u8 0] 5)
          have hbA : Below W0.heap.size W0 (wr.alloc (.cells #[.int .u8 0] 5)) := hbr2.out.alloc hbr2.out.size _
          have hBA : Bytes (wr.alloc (.cells #[.int .u8 0] 5)) (some ⟨wr.heap.size, 0, none⟩) [0] := .inr ⟨wr.heap.size, 0, rfl, by simp, by
            intro k hk
            obtain rfl : k = 0 := by simpa using hk
            simp⟩
          have HSZ : Hid (O.length + [(0 : UInt8)].length ≤ 140737488355328) := Lib.hid (by simp; omega)
          have HNX : Hid (O ++ [0] = RB ++ List.replicate (t + 1) 0) := Lib.hid (by rw [← hO, List.replicate_succ', List.append_assoc])
          have HOL := Lib.hid hOl
          clear hO hB7 hown2 hzq hz4 hlv hOl
          go_wp2_with (at_builtin; refine wpList_append_bytes rfl (.tmp 57) (.tmp 58) rfl W0.heap.size _ _ O rfl hownA (some ⟨wr.heap.size, 0, none⟩) [0] 1 rfl hBA HSZ.out hbA.size ?_; intro v8 w8 ho8 hg8; have hbr8 : Below W0.heap.size W0 w8 := below_grown hbA hg8 hbA.size (fun g e => (hownA.from_base g e).1))
          obtain ⟨A8, c8, rfl, _, _, _⟩ := ho8.read
          have hl8 : (O ++ [(0 : UInt8)]).length = RB.length + (t + 1) := by have := HOL.out; simp; omega
          rw [HNX.out] at ho8 hl8
          have hOl := HOL.out
          exact ⟨⟨t + 1, by omega, by rw [HNX.out]; exact ho8, Lib.hid hbr8, by rw [HNX.out]; exact hl8⟩, by rw [HNX.out]; show RB.length + Z - (RB ++ List.replicate (t + 1) 0).length < RB.length + Z - O.length; omega⟩
        · obtain rfl : t = Z := by omega
          have hm4 : (O.length : Int) % 4 = 2 := by omega
          have HBO : Hid (bodyH ⟨p, q, l, d⟩ = UInt8.ofNat ((O.length + 2) / 4) :: UInt8.ofNat s2 :: O) := Lib.hid (by rw [HBD.out, hO, HSB.out])
          obtain ⟨M, hM⟩ : ∃ M, (O.length + 2) / 4 = M := ⟨_, rfl⟩
          rw [hM] at HBO
          have hMb : M < 256 := by omega
          have hq1 : ((O.length : Int) + 2) / 4 = (M : Int) := by omega
          have hwm : IntKind.u8.wrap (M : Int) = (M : Int) := by rw [IntKind.wrap_u8]; omega
          have hws : IntKind.u8.wrap (s2 : Int) = (s2 : Int) := by rw [IntKind.wrap_u8]; omega
          have hol : Own W0.heap.size (wr.alloc (.cells #[.int .u8 (M : Int), .int .u8 (s2 : Int)] 5)) (.slice (some ⟨wr.heap.size, 0, none⟩) 2 2) [UInt8.ofNat M, UInt8.ofNat s2] := by
            have h := Own.lit wr [UInt8.ofNat M, UInt8.ofNat s2] (base := W0.heap.size) hbr2.out.size (by simp)
            have e1 : ((UInt8.ofNat M).toNat : Int) = (M : Int) := by rw [UInt8.toNat_ofNat']; omega
            have e2 : ((UInt8.ofNat s2).toNat : Int) = (s2 : Int) := by rw [UInt8.toNat_ofNat']; omega
            rw [← e1, ← e2]; exact h
          have hbl : Below W0.heap.size W0 (wr.alloc (.cells #[.int .u8 (M : Int), .int .u8 (s2 : Int)] 5)) := hbr2.out.alloc hbr2.out.size _
          have hBl : Bytes (wr.alloc (.cells #[.int .u8 (M : Int), .int .u8 (s2 : Int)] 5)) A7 O := hB7.below ((Below.refl _ _).alloc (Nat.le_refl _) _)
          have HSZ : Hid ([UInt8.ofNat M, UInt8.ofNat s2].length + O.length ≤ 140737488355328) := Lib.hid (by simp; omega)
          have hOb : O.length ≤ 200 := by omega
          have HOB := Lib.hid hOb
          clear hO htz hzq hz4 hlv hOl hB7 hown2 hM hOb
          go_wp2_with (at_builtin; refine wpList_append_bytes rfl (.tmp 67) (.tmp 68) rfl W0.heap.size _ _ [UInt8.ofNat M, UInt8.ofNat s2] rfl hol A7 O c7 rfl hBl HSZ.out hbl.size ?_; intro v9 w9 ho9 hg9; have hb9 : Below W0.heap.size W0 w9 := below_grown hbl hg9 hbl.size (fun g e => (hol.from_base g e).1); obtain ⟨A9, c9, rfl, hc9, hm9, hB9⟩ := ho9.read; rw [show [UInt8.ofNat M, UInt8.ofNat s2] ++ O = bodyH ⟨p, q, l, d⟩ from HBO.out.symm])
          have hB9' : Bytes w9 A9 (bodyH ⟨p, q, l, d⟩) := by rw [HBO.out]; exact hB9
          have ho9' : Own W0.heap.size w9 (.slice A9 (bodyH ⟨p, q, l, d⟩).length c9) (bodyH ⟨p, q, l, d⟩) := by rw [HBO.out]; exact ho9
          have hbl' : (bodyH ⟨p, q, l, d⟩).length ≤ 202 := by rw [HBO.out]; have := HOB.out; simp; omega
          clear hB9 ho9
          generalize bodyH ⟨p, q, l, d⟩ = BH at *
          have HSZ2 : Hid (BH.length + (sum1 BH).length ≤ 140737488355328) := Lib.hid (by have := sum1_length BH; omega)
          refine (rchk1_any A9 BH c9 w9 hB9' (by omega)).mono ?_
          rintro e w10 ⟨v10, rfl, ho10, hb10⟩
          obtain ⟨A10, c10, rfl, hc10, hm10, hB10⟩ := ho10.read
          have ho910 := ho9'.below hb10
          have hb910 : Below W0.heap.size W0 w10 := hb9.trans (hb10.mono hb9.size)
          clear ho9' hb10 ho10 hB9'
          go_wp2_with (at_builtin; refine wpList_append_bytes rfl (.tmp 70) (.tmp 72) rfl W0.heap.size _ _ BH rfl ho910 A10 (sum1 BH) c10 rfl hB10 HSZ2.out hb910.size ?_; intro v11 w11 ho11 hg11; have hb11 : Below W0.heap.size W0 w11 := below_grown hb910 hg11 hb910.size (fun g e => (ho910.from_base g e).1))
          go_ret
          exact ⟨_, rfl, by rw [HPH.out]; exact ho11.weaken hb0.size, hb0.trans (hb11.mono hb0.size)⟩
end Go.Proofs.YtaggkcgeddoogaaDoor
