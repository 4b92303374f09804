/- The reference: May, a filter's bytes. -/
import Derived.Test.YtaggkcgeddoogaaDoorHdGet
import Derived.Test.YtaggkcgeddoogaaDoorVliAll
namespace Go.Proofs.YtaggkcgeddoogaaDoor
open Go.RowKit

theorem bytes_last (d : Nat) : bytesL (lastF d) = if dictB d = true then some [UInt8.ofNat (codeN d)] else none := by
  unfold bytesL lastF dictB
  rw [if_pos rfl]
  by_cases h : dictN (codeN d) = d
  · rw [if_pos h, if_pos (by simpa using h)]
  · rw [if_neg h, if_neg (by simpa using h)]
theorem valid_of (h : HeadM) : validB h = (dictB h.d && mayL h.l && decide (-1 ≤ h.p) && decide (h.p ≠ 0) && decide (-1 ≤ h.q)) := by
  obtain ⟨p, q, l, d⟩ := h
  have e : sizesB p q = (decide (-1 ≤ p) && decide (p ≠ 0) && decide (-1 ≤ q)) := by
    rw [Bool.eq_iff_iff]
    simp only [sizesB, Bool.and_eq_true, Bool.or_eq_true, decide_eq_true_eq]
    omega
  show (sizesB p q && mayL l && dictB d) = _
  rw [e]
  cases dictB d <;> cases mayL l <;> simp
set_option maxRecDepth 100000 in
set_option maxHeartbeats 2000000 in
theorem rhmay_any (h : HeadM) (hok : h.ok) (A : Option Addr) (c : Nat) (w : World) (hF0 : Fils w A h.l) (hl : h.l.length ≤ 20) :
    Calls Tryd.prog 7 #[headV h A c] w fun e w' => e = .returned (.bool (validB h)) ∧ Below w.heap.size w w' := by
  have HV := Lib.hid (valid_of h)
  obtain ⟨p, q, l, d⟩ := h
  obtain ⟨o1, o2, o3, o4, o5⟩ : -9223372036854775808 ≤ p ∧ p ≤ 9223372036854775807 ∧ -9223372036854775808 ≤ q ∧ q ≤ 9223372036854775807 ∧ d < 4294967296 := hok
  obtain ⟨W0, hW0⟩ : ∃ W0, w.alloc (.cells #[.int .i64 p, .int .i64 q, .slice A l.length c, .int .u32 (d : Nat)] 32) = W0 := ⟨_, rfl⟩
  have hb0 : Below w.heap.size w W0 := by rw [← hW0]; exact (Below.refl _ _).alloc (Nat.le_refl _) _
  have hlt0 : w.heap.size < W0.heap.size := by rw [← hW0]; simp
  have hcs : W0.cell? ⟨w.heap.size, 0, none⟩ = some (.int .i64 p) ∧ W0.cell? ⟨w.heap.size, 1, none⟩ = some (.int .i64 q) ∧ W0.cell? ⟨w.heap.size, 2, none⟩ = some (.slice A l.length c) ∧ W0.cell? ⟨w.heap.size, 3, none⟩ = some (.int .u32 (d : Nat)) := by
    rw [← hW0]; exact ⟨by simp, by simp, by simp, by simp⟩
  have HW0 := Lib.hid hW0
  have HCS := Lib.hid (fun (wx : World) (hb : Below W0.heap.size W0 wx) => (show wx.cell? ⟨w.heap.size, 0, none⟩ = some (.int .i64 p) ∧ wx.cell? ⟨w.heap.size, 1, none⟩ = some (.int .i64 q) ∧ wx.cell? ⟨w.heap.size, 2, none⟩ = some (.slice A l.length c) ∧ wx.cell? ⟨w.heap.size, 3, none⟩ = some (.int .u32 (d : Nat)) from
    ⟨(hb.cell (p := ⟨w.heap.size, 0, none⟩) hlt0).trans hcs.1, (hb.cell (p := ⟨w.heap.size, 1, none⟩) hlt0).trans hcs.2.1, (hb.cell (p := ⟨w.heap.size, 2, none⟩) hlt0).trans hcs.2.2.1, (hb.cell (p := ⟨w.heap.size, 3, none⟩) hlt0).trans hcs.2.2.2⟩))
  have HRB := rbytes_any (lastF d) ⟨by show (-9223372036854775808 : Int) ≤ 33; omega, by show (33 : Int) ≤ 9223372036854775807; omega, o5⟩ W0
  rw [bytes_last] at HRB
  have HM := Lib.hid (fun w' (hf : Fils w' A l) => rmayL_any A l c w' hf hl)
  simp only at HV
  generalize validB ⟨p, q, l, d⟩ = R at *
  generalize mayL l = m at *
  have HRB2 : Hid (Calls Tryd.prog 19 #[.agg #[.int .i64 33, .int .u32 (d : Nat)]] W0 fun e w' => ∃ v, e = .returned (.tuple #[v, .bool (dictB d)]) ∧ Below W0.heap.size W0 w') := Lib.hid (by
    cases hd : dictB d with
    | true =>
      rw [hd] at HRB
      have h : Calls Tryd.prog 19 #[.agg #[.int .i64 33, .int .u32 (d : Nat)]] W0 (GivesT W0 [UInt8.ofNat (codeN d)] (.bool true)) := HRB
      refine h.mono ?_
      rintro e w' ⟨v, he, _, hb⟩
      exact ⟨v, he, hb⟩
    | false =>
      rw [hd] at HRB
      have h : Calls Tryd.prog 19 #[.agg #[.int .i64 33, .int .u32 (d : Nat)]] W0 (NoneT W0 (.bool false)) := HRB
      refine h.mono ?_
      rintro e w' ⟨he, hb⟩
      exact ⟨_, he, hb⟩)
  obtain ⟨_, _, _, k3⟩ := hcs
  generalize dictB d = db at *
  clear HRB hW0 hlt0
  go_enter Tryd.func7, Tryd.ntmps7
  go_upto_region 1 with fail
  rw [HW0.out]
  clear HW0
  go_wp2_with fail
  refine HRB2.out.mono ?_
  rintro e w1 ⟨v, rfl, hb1⟩
  obtain ⟨_, _, j2, _⟩ := HCS.out w1 hb1
  clear k3
  go_wp2_with fail
  refine (HM.out w1 ((hF0.below hb0).below hb1)).mono ?_
  rintro e w2 ⟨rfl, hb2⟩
  have hb02 : Below W0.heap.size W0 w2 := hb1.trans (hb2.mono hb1.size)
  have HB := Lib.hid (hb0.trans (hb02.mono hb0.size))
  obtain ⟨y0, y1, _, _⟩ := HCS.out w2 hb02
  clear j2 hb1 hb2 hb02 hF0 HM HRB2
  cases db with
  | false =>
    have HF : Hid (R = false) := Lib.hid (by rw [HV.out]; rfl)
    go_wp2_with fail
    go_ret
    exact ⟨by rw [HF.out]; rfl, HB.out⟩
  | true =>
    cases m with
    | false =>
      have HF : Hid (R = false) := Lib.hid (by rw [HV.out]; rfl)
      go_wp2_with fail
      go_ret
      exact ⟨by rw [HF.out]; rfl, HB.out⟩
    | true =>
      by_cases hp1 : -1 ≤ p
      · by_cases hp0 : p = 0
        · subst hp0
          have HF : Hid (R = false) := Lib.hid (by rw [HV.out]; rfl)
          go_wp2_with fail
          go_ret
          exact ⟨by rw [HF.out]; rfl, HB.out⟩
        · have HF : Hid (R = (p != 0 && decide (-1 ≤ q))) := Lib.hid (by
            have e : (p != 0) = true := by simpa using hp0
            rw [HV.out, e]; simp [hp1, hp0])
          go_wp2_with fail
          go_ret
          exact ⟨by rw [HF.out]; rfl, HB.out⟩
      · have HF : Hid (R = false) := Lib.hid (by rw [HV.out]; simp [hp1])
        have hpb : decide (-1 ≤ p) = false := by simpa using hp1
        clear hp1
        go_wp2_with fail
        go_ret
        exact ⟨by rw [HF.out]; rfl, HB.out⟩

set_option maxRecDepth 100000 in
set_option maxHeartbeats 2000000 in
theorem rfilter_any (f : Fil) (hg : GoodF f) (w : World) : Calls Tryd.prog 29 #[f.agg] w (OwnDone w (filB f)) := by
  obtain ⟨hok, hid0, hid1, hbl, hpl⟩ := hg
  obtain ⟨W0, hW0⟩ : ∃ W0, w.alloc (.cells #[.int .i64 f.id, .int .u32 (f.n : Nat)] 48) = W0 := ⟨_, rfl⟩
  have hb0 : Below w.heap.size w W0 := by rw [← hW0]; exact (Below.refl _ _).alloc (Nat.le_refl _) _
  have hlt0 : w.heap.size < W0.heap.size := by rw [← hW0]; simp
  have hcs : W0.cell? ⟨w.heap.size, 0, none⟩ = some (.int .i64 f.id) ∧ W0.cell? ⟨w.heap.size, 1, none⟩ = some (.int .u32 (f.n : Nat)) := by rw [← hW0]; exact ⟨by simp, by simp⟩
  have HW0 := Lib.hid hW0
  have HRB := rbytes_any f hok W0
  rw [hbl] at HRB
  have HFB := Lib.hid (show filB f = Vl.put 9 f.id.toNat ++ (Vl.put 9 (propB f).length ++ propB f) from rfl)
  obtain ⟨id, n⟩ := f
  simp only at hid0 hid1 hcs HFB
  obtain ⟨m, rfl⟩ := Int.eq_ofNat_of_zero_le hid0
  rw [Int.toNat_natCast] at HFB
  have HRB2 : Hid (Calls Tryd.prog 19 #[.agg #[.int .i64 (m : Int), .int .u32 (n : Nat)]] W0 (GivesT W0 (propB ⟨m, n⟩) (.bool true))) := Lib.hid HRB
  have HRP := Lib.hid (fun (n : Nat) (w' : World) (h : n ≤ 9223372036854775807) => rput_any 9 n w' (by omega) (Nat.lt_of_le_of_lt h (by decide)) (by omega))
  generalize propB ⟨m, n⟩ = PP at *
  have hV1 := (Vl.put_length 9 m).2
  have hV2 := (Vl.put_length 9 PP.length).2
  have HSZ : Hid ((Vl.put 9 m).length + (Vl.put 9 PP.length).length ≤ 140737488355328 ∧ (Vl.put 9 m ++ Vl.put 9 PP.length).length + PP.length ≤ 140737488355328) := Lib.hid (by simp only [List.length_append]; omega)
  have HP1 := Lib.hid (fun w' => HRP.out m w' (by omega))
  have HP2 := Lib.hid (fun w' => HRP.out PP.length w' (by omega))
  obtain ⟨k0, k1⟩ := hcs
  clear HRB hW0 hbl hid0 hV1 hV2 hok HRP
  go_enter Tryd.func29, Tryd.ntmps29
  go_upto_region 1 with fail
  rw [HW0.out]
  clear HW0
  go_wp2_with fail
  refine HRB2.out.mono ?_
  rintro e w1 ⟨v1, rfl, ho1, hb1⟩
  obtain ⟨A1, c1, rfl, hc1, hm1, hB1⟩ := ho1.read
  have hb01 : Below w.heap.size w w1 := hb0.trans (hb1.mono hb0.size)
  have j0 : w1.cell? ⟨w.heap.size, 0, none⟩ = some (.int .i64 (m : Int)) := (hb1.cell (p := ⟨w.heap.size, 0, none⟩) hlt0).trans k0
  clear k0 k1 ho1
  go_wp2_with fail
  refine (HP1.out w1).mono ?_
  rintro e w2 ⟨v2, rfl, ho2, hb2⟩
  go_wp2_with fail
  refine (HP2.out w2).mono ?_
  rintro e w3 ⟨v3, rfl, ho3, hb3⟩
  obtain ⟨A3, c3, rfl, hc3, hm3, hB3⟩ := ho3.read
  have ho23 := ho2.below hb3
  have hb13 : Below w1.heap.size w1 w3 := hb2.trans (hb3.mono hb2.size)
  have HB1 := Lib.hid hB1
  clear ho2 ho3 hb2 hb3 hB1 hb1
  go_wp2_with (at_builtin; first | (refine wpList_append_bytes rfl (.tmp 14) (.tmp 18) rfl w1.heap.size w3 v2 (Vl.put 9 m) rfl ho23 A3 (Vl.put 9 PP.length) c3 rfl hB3 HSZ.out.1 hb13.size ?_; intro v4 w4 ho4 hg4; have hb14 : Below w1.heap.size w1 w4 := below_grown hb13 hg4 hb13.size (fun g e => (ho23.from_base g e).1); have hB14 : Bytes w4 A1 PP := HB1.out.below hb14) | (refine wpList_append_bytes rfl (.tmp 20) (.tmp 21) rfl w1.heap.size w4 v4 (Vl.put 9 m ++ Vl.put 9 PP.length) rfl ho4 A1 PP c1 rfl hB14 HSZ.out.2 hb14.size ?_; intro v5 w5 ho5 hg5; have hb15 : Below w1.heap.size w1 w5 := below_grown hb14 hg5 hb14.size (fun g e => (ho4.from_base g e).1)))
  go_ret
  exact ⟨_, rfl, by rw [HFB.out, ← List.append_assoc]; exact ho5.weaken hb01.size, hb01.trans (hb15.mono hb01.size)⟩
end Go.Proofs.YtaggkcgeddoogaaDoor
