/- Several texts in one: UmRead, UmBackM, UmKnows. -/
import Derived.Test.YtdkimllfpiphgaaUmMathAll
import Derived.Test.YtdkimllfpiphgaaMbMemAll
import Derived.Test.YtdkimllfpiphgaaRcBytes
/- unmodel's Read. -/
namespace Go.Proofs.Ytdkimllfpiphgaa
open Go.RowKit

theorem Only.fresh {X : List Nat} {a b c : World} (h : Only X a b) (k : Below a.heap.size b c) : Only X a c :=
  ⟨k.os.trans h.os, k.tape.trans h.tape, k.output.trans h.output, Nat.le_trans h.size k.size, fun i hi hx => (k.block i hi).trans (h.block i hi hx)⟩
theorem Own.keepB {base : Nat} {w w' : World} {v : Value} {l : List UInt8} (h : Own base w v l) (hb : ∀ g, v.ownBlock = some g → w'.heap[g]? = w.heap[g]?) : Own base w' v l := by
  rcases h with ⟨h1, h2 | ⟨g, cap, cur, h2, h3, h4, h5⟩⟩
  · exact ⟨h1, .inl h2⟩
  · exact ⟨h1, .inr ⟨g, cap, cur, h2, h3, (hb g (by rw [h2]; rfl)).trans h4, h5⟩⟩
def UmDone (gd o cap : Nat) (L : List UInt8) (C Lb lc lp pb : Nat) (X : List Nat) (n0 : Nat) (res : Option (List UInt8 × Nat × R4 × PD)) (w : World) (e : Ending) (w' : World) : Prop :=
  match res with
  | none => e = .returned (.tuple #[.slice none 0 0, .int .i64 6]) ∧ Only (C :: Lb :: X) w w'
  | some (T, st, r, y) => ∃ A c, e = .returned (.tuple #[.slice A (T.length - n0) c, .int .i64 0]) ∧ T.length - n0 ≤ c ∧ c ≤ 9223372036854775807 ∧ Bytes w' A (T.drop n0) ∧ Went (decIo gd o cap L) C Lb lc lp pb st r y X w w'
theorem umread_nil (v h : Value) (many dict : Int) (hv : ∃ A n c, h = .slice A n c) (w : World) : Calls Try.prog 10 #[.pointer none, v, h, .int .i64 many, .int .i64 dict] w fun e w' => e = .returned (.tuple #[.slice none 0 0, .int .i64 1]) ∧ w = w' := by
  obtain ⟨A, n, c, rfl⟩ := hv
  go_enter Try.func10, Try.ntmps10
  go_wp2_with fail
  go_ret2
  exact ⟨rfl, rfl⟩
theorem umread_bad (g C : Nat) (A : Option Addr) (n c : Nat) (many dict : Int) (h : many < 0 ∨ dict < 1) (w : World) : Calls Try.prog 10 #[PF g, PF C, .slice A n c, .int .i64 many, .int .i64 dict] w fun e w' => e = .returned (.tuple #[.slice none 0 0, .int .i64 1]) ∧ w = w' := by
  by_cases h1 : many < 0
  · have h1b : decide (many < 0) = true := decide_eq_true h1
    go_enter Try.func10, Try.ntmps10
    go_wp2_with fail
    go_ret2
    exact ⟨rfl, rfl⟩
  · have h1b : decide (many < 0) = false := decide_eq_false h1
    have h2 : dict < 1 := by omega
    have h2b : decide (dict < 1) = true := decide_eq_true h2
    go_enter Try.func10, Try.ntmps10
    go_wp2_with fail
    go_ret2
    exact ⟨rfl, rfl⟩
set_option maxRecDepth 100000 in
set_option maxHeartbeats 4000000 in
theorem umread_good {gd o cap : Nat} {L : List UInt8} {C Lb lc lp pb st : Nat} {r : R4} {y : PD} {X : List Nat} {w : World} (hM : MS (decIo gd o cap L) w C Lb lc lp pb st r y X) (hlc : lc ≤ 4) (hlp : lp ≤ 4) (hpb : pb ≤ 4) (hst : st < 12) (hr : rGood r) (hok : (decIo gd o cap L).ok y.2 0)
    (A : Option Addr) (H : List UInt8) (c : Nat) (hB : Bytes w A H) (hc : H.length ≤ c) (hH : H.length ≤ 1000000) (many : Nat) (hmany : many ≤ 1000000) (dict : Int) (hd1 : 1 ≤ dict) (hd2 : dict ≤ 9223372036854775807) :
    Calls Try.prog 10 #[PF gd, PF C, .slice A H.length c, .int .i64 (many : Nat), .int .i64 dict] w (UmDone gd o cap L C Lb lc lp pb X (H.length - cutOf H.length (max dict r.1)) (uread gd o cap L lc lp pb dict (H.length - cutOf H.length (max dict r.1) + many) many (H.drop (cutOf H.length (max dict r.1))) st r y) w) := by
  have hr1 : 1 ≤ r.1 ∧ r.1 ≤ 4294967296 := ⟨hr.1.1, hr.2.1⟩
  obtain ⟨back, hback⟩ : ∃ back, max dict r.1 = back := ⟨_, rfl⟩
  have hb1 : 1 ≤ back := by omega
  have hb2 : back ≤ 9223372036854775807 := by omega
  have hcl := cutOf_le H.length (show 0 ≤ back by omega)
  have HRE := Lib.hid (fun W => reached_any A H c back W hc (by omega) hb1 hb2)
  rw [hback]
  obtain ⟨cut, hcut⟩ : ∃ cut, cutOf H.length back = cut := ⟨_, rfl⟩
  rw [hcut] at HRE hcl ⊢
  have hBT := hB.cutFrom hcl hc
  have hTl : (H.drop cut).length = H.length - cut := List.length_drop
  obtain ⟨T0, hT0⟩ : ∃ T0, H.drop cut = T0 := ⟨_, rfl⟩
  rw [hT0] at hBT hTl ⊢
  obtain ⟨n0, hn0⟩ : ∃ n0, H.length - cut = n0 := ⟨_, rfl⟩
  rw [hn0] at HRE hTl ⊢
  obtain ⟨AT, hAT⟩ : ∃ AT, (if c = cut then A else A.map (·.add cut)) = AT := ⟨_, rfl⟩
  rw [hAT] at HRE hBT
  obtain ⟨cT, hcT⟩ : ∃ cT, c - cut = cT := ⟨_, rfl⟩
  rw [hcT] at HRE
  obtain ⟨RES, hRES⟩ : ∃ RES, uread gd o cap L lc lp pb dict (n0 + many) many T0 st r y = RES := ⟨_, rfl⟩
  rw [hRES]
  have HRES := Lib.hid hRES
  obtain rfl : X = [gd, o] := hM.io.1
  have HM := Lib.hid hM
  have HBT := Lib.hid hBT
  have HTL := Lib.hid hTl
  have HPAR := Lib.hid (And.intro hlc (And.intro hlp hpb))
  have HST := Lib.hid (And.intro hst (And.intro hr hok))
  have hni : (n0 : Int) ≤ 1000000 := by omega
  have hnn : n0 ≤ 1000000 := by omega
  have hmi : (many : Int) ≤ 1000000 := by omega
  have hlt := hM.ltall
  have HLT := Lib.hid hlt
  have HBK := Lib.hid hback
  have hd1b : decide (dict < 1) = false := decide_eq_false (by omega)
  have hm0 : decide ((many : Int) < 0) = false := decide_eq_false (by omega)
  clear hM hB hBT hc hH hcl hcut hT0 hn0 hAT hcT hRES hlc hlp hpb hst hr hok hlt hTl hback
  go_enter Try.func10, Try.ntmps10
  go_wp2_with fail
  refine (repeats_any HM.out.mod).mono ?_
  rintro e w1 ⟨rfl, hb1'⟩
  have ix := ix4_0 r.1 r.2.1 r.2.2.1 r.2.2.2 w1
  have HB1 := Lib.hid hb1'
  clear hb1'
  go_wp2_with fail
  rw [HBK.out]
  refine (HRE.out w1).mono ?_
  rintro e w1' ⟨rfl, rfl⟩
  clear ix
  go_upto_region 4 with (at_builtin; refine wpList_append_bytes rfl (.const (.slice none 0 0)) (.tmp 36) rfl w.heap.size w1 _ [] rfl (Own.nil _ _) AT T0 cT (by rw [HTL.out]; rfl) (HBT.out.below HB1.out) (by rw [HTL.out]; simp; omega) HB1.out.size ?_; intro v2 w2 ho2 hg2; have HO2 := Lib.hid (show Own w.heap.size w2 v2 T0 from ho2); have HB2 := Lib.hid (below_grown HB1.out hg2 HB1.out.size (fun g e => by cases e)); clear ho2 hg2)
  have eT := HTL.out
  subst eT
  obtain ⟨A2, c2, rfl, hc2, hm2, _⟩ := HO2.out.read
  have hc2i : (T0.length : Int) ≤ (c2 : Int) := by omega
  have HM2 : Hid (MS (decIo gd o cap L) w2 C Lb lc lp pb st r y [gd, o]) := Lib.hid (HM.out.keepAll HB2.out.size (fun i hi => HB2.out.block i (HLT.out i hi)))
  have HON2 : Hid (Only (C :: Lb :: [gd, o]) w w2) := Lib.hid (Only.of_below HB2.out)
  clear hc2 hm2
  go_wp2_with fail
  go_loopg [12] many (fun gk v wr => ∃ (T : List UInt8) (st : Nat) (r : R4) (y : PD) (vv : Value), vv = v ∧ T0.length ≤ T.length ∧ T.length ≤ T0.length + many ∧ T0.length + many ≤ T.length + gk ∧ Hid (Own w.heap.size wr vv T) ∧ Hid (uread gd o cap L lc lp pb dict (T0.length + many) gk T st r y = RES) ∧ Hid (MS (decIo gd o cap L) wr C Lb lc lp pb st r y [gd, o]) ∧ Hid (st < 12 ∧ rGood r ∧ (decIo gd o cap L).ok y.2 0) ∧ Hid (Only (C :: Lb :: [gd, o]) w wr))
  case atStart => exact ⟨T0, st, r, y, _, rfl, Nat.le_refl _, Nat.le_add_right _ _, Nat.le_refl _, HO2, HRES, HM2, HST, HON2⟩
  case round =>
    obtain ⟨T, st, r, y, v, rfl, hT1, hT2, hT3, HO, HU, HM, HST, HON⟩ := hrel
    obtain ⟨AT, cT, rfl, hcT, hmT, hBT⟩ := HO.out.read
    have hTi : (T.length : Int) ≤ 2000000 := by omega
    have hTi0 : (T0.length : Int) ≤ (T.length : Int) := by omega
    have hcTi : (T.length : Int) ≤ (cT : Int) := by omega
    have HTB := Lib.hid (And.intro hT1 (And.intro hT2 hT3))
    have hsz := HON.out.size
    by_cases hend : T.length < T0.length + many
    · have hendi : (T.length : Int) - (T0.length : Int) < (many : Int) := by omega
      cases gk with
      | zero => omega
      | succ gk =>
        obtain ⟨⟨s, st', r', y'⟩, ht⟩ : ∃ t, Md.sym (decIo gd o cap L) lc lp pb st r T 0 0 0 0 0 y = t := ⟨_, rfl⟩
        have hk := sym_is (decIo gd o cap L) HM.out HPAR.out.1 HPAR.out.2.1 HPAR.out.2.2 HST.out.1 HST.out.2.1 (k := 0) AT T cT hBT hcT (by omega) (fun a e => fun hm => by have h1 := (HO.out.from_base a.block (by rw [e]; rfl)).1; have := HLT.out _ hm; omega) 0 0 0 0 0 (fun _ => ⟨by decide, by decide⟩) (fun _ _ => ⟨by decide, by decide⟩) ht HST.out.2.2
        have HKD : Hid (Calls Try.prog 27 #[PF C, .iface 25 (.pointer (some ⟨gd, 0, none⟩)), .slice AT T.length cT, .agg #[.int .i64 0, .int .u8 0, .int .i64 0, .int .i64 0, .int .i64 0]] wr _) := Lib.hid hk
        have HTS := Lib.hid ht
        clear hk ht hBT hcT hmT
        go_wp2_with fail
        refine HKD.out.mono ?_
        rintro e w5 ⟨⟨rfl, X5, hM5, hon5, _⟩, hk2, hr3, hl273, _, hst12, hrg, hok5⟩
        obtain rfl : X5 = [gd, o] := hM5.io.1
        have hO5 : Own w.heap.size w5 (.slice AT T.length cT) T := HO.out.keepB fun g e => by
          have h1 := HO.out.from_base g e
          exact hon5.block g h1.2 (fun hm => by have := HLT.out _ hm; omega)
        have hl273i : (s.l : Int) ≤ 273 := by omega
        have HON5 : Hid (Only (C :: Lb :: [gd, o]) w w5) := Lib.hid (HON.out.trans hon5 (fun i hi => .inl hi))
        obtain ⟨W6, hW6⟩ : ∃ W, w5.alloc (.cells #[.int .i64 (s.k : Nat), .int .u8 (s.b.toNat : Nat), .int .i64 (s.l : Nat), .int .i64 (s.d : Nat), .int .i64 (s.r : Nat)] 58) = W := ⟨_, rfl⟩
        obtain ⟨y0, y1, y2, y3, y4, hb6⟩ := sy_box hW6
        have hlt6 := block_lt_of_cell y0
        have HB6 : Hid (Below w.heap.size w5 W6) := Lib.hid (hb6.mono HON5.out.size)
        have HM6 := Lib.hid (hM5.below hb6)
        have HO6 : Hid (Own w.heap.size W6 (.slice AT T.length cT) T) := Lib.hid (hO5.below hb6)
        have HST6 := Lib.hid (And.intro hst12 (And.intro hrg hok5))
        have HON6 : Hid (Only (C :: Lb :: [gd, o]) w W6) := Lib.hid (HON5.out.fresh HB6.out)
        have HW6 := Lib.hid hW6
        have HOUT := Lib.hid (out_any gd o cap L y'.2 W6 HM6.out.io.2)
        have HL273 := Lib.hid hl273
        clear hM5 hon5 hst12 hrg hok5 hO5 hW6 hb6 HKD HM HO
        go_upto_region 7 with fail
        rw [HW6.out]
        cases hout : y'.2.out with
        | true =>
          have hres : RES = none := by rw [← HU.out]; exact uread_out hend HTS.out hout
          rw [hout] at HOUT
          have HRN := Lib.hid hres
          clear hres hout
          go_wp2_with fail
          refine HOUT.out.mono ?_
          rintro e w7 ⟨rfl, rfl⟩
          go_wp2_with fail
          go_ret2
          rw [HRN.out]
          exact ⟨rfl, HON6.out⟩
        | false =>
          rw [hout] at HOUT
          have HOF := Lib.hid hout
          clear hout
          go_wp2_with fail
          refine HOUT.out.mono ?_
          rintro e w7 ⟨rfl, rfl⟩
          by_cases hk0 : s.k = 0
          · have HU2 : Hid (uread gd o cap L lc lp pb dict (T0.length + many) gk (T ++ [s.b]) st' r' y' = RES) := Lib.hid (by rw [← HU.out]; exact (uread_lit hend HTS.out HOF.out hk0).symm)
            have hk0b : (((s.k : Nat) : Int) == 0) = true := by rw [hk0]; rfl
            obtain ⟨W8, hW8⟩ : ∃ W, W6.alloc (.cells #[.int .u8 (s.b.toNat : Nat)] 5) = W := ⟨_, rfl⟩
            have hb8 : Below w.heap.size W6 W8 := by rw [← hW8]; exact (Below.refl _ _).alloc HON6.out.size _
            have ho8 : Own w.heap.size W8 (.slice AT T.length cT) T := by rw [← hW8]; exact HO6.out.alloc _
            have hx8 : Bytes W8 (some ⟨W6.heap.size, 0, none⟩) [s.b] := by rw [← hW8]; exact lit_bytes W6 s.b
            have HW8 := Lib.hid hW8
            have HB8 := Lib.hid hb8
            have HO8 := Lib.hid ho8
            have HX8 := Lib.hid hx8
            have hsz8 : Hid (w.heap.size ≤ W8.heap.size) := Lib.hid (Nat.le_trans HON6.out.size hb8.size)
            have HT2M : Hid (T.length ≤ 2000000) := Lib.hid (by omega)
            clear hW8 hb8 ho8 hx8 hk0
            go_wp2_with (at_builtin; rw [HW8.out]; refine wpList_append_bytes rfl (.tmp 57) (.tmp 60) rfl w.heap.size W8 _ T rfl HO8.out (some ⟨W6.heap.size, 0, none⟩) [s.b] 1 rfl HX8.out (by have := HT2M.out; simp; omega) hsz8.out ?_; intro v9 w9 ho9 hg9; have HO9 : Hid (Own w.heap.size w9 v9 (T ++ [s.b])) := Lib.hid ho9; have HB9 := Lib.hid (below_grown HB8.out hg9 hsz8.out (fun g e => (HO8.out.from_base g e).1)); clear ho9 hg9)
            go_roundg gk
            case measure => omega
            case rel =>
              refine ⟨T ++ [s.b], st', r', y', v9, rfl, ?_, ?_, ?_, HO9, HU2, Lib.hid (HM6.out.keepAll HB9.out.size (fun i hi => HB9.out.block i (HLT.out i hi))), HST6, Lib.hid (HON6.out.fresh HB9.out)⟩ <;> rw [List.length_append, List.length_singleton] <;> omega
          · have hk0b : (((s.k : Nat) : Int) == 0) = false := beq_eq_false_iff_ne.2 (by omega)
            have HRP := Lib.hid (repeats_any HM6.out.mod)
            have HK0 := Lib.hid hk0
            clear hk0
            go_wp2_with fail
            refine HRP.out.mono ?_
            rintro e w7 ⟨rfl, hb7⟩
            have ix := ix4_0 r'.1 r'.2.1 r'.2.2.1 r'.2.2.2 w7
            have z2 := (hb7.cell (p := ⟨w5.heap.size, 2, none⟩) hlt6).trans y2
            have HB7 : Hid (Below w.heap.size W6 w7) := Lib.hid (hb7.mono HON6.out.size)
            have HO7 : Hid (Own w.heap.size w7 (.slice AT T.length cT) T) := Lib.hid (HO6.out.below hb7)
            have HR1 : Hid (1 ≤ r'.1) := Lib.hid HST6.out.2.1.1.1
            have hr1i : r'.1 ≤ 4294967296 := HST6.out.2.1.2.1
            have hr1j : 1 ≤ r'.1 := HR1.out
            clear hb7 y0 y1 y2 y3 y4
            by_cases hbad : min (T.length : Int) dict < r'.1 ∨ T0.length + many - T.length < s.l
            · have hres : RES = none := by rw [← HU.out]; exact uread_bad hend HTS.out HK0.out hbad
              have HRN := Lib.hid hres
              clear hres
              by_cases hb1 : min (T.length : Int) dict < r'.1
              · have hb1b : decide (min (T.length : Int) dict < r'.1) = true := decide_eq_true hb1
                clear hbad
                go_wp2_with fail
                go_ret2
                rw [HRN.out]
                exact ⟨rfl, HON6.out.fresh HB7.out⟩
              · have hb1b : decide (min (T.length : Int) dict < r'.1) = false := decide_eq_false hb1
                have hb2 : (many : Int) - ((T.length : Int) - (T0.length : Int)) < (s.l : Int) := by omega
                have hb2b : decide ((many : Int) - ((T.length : Int) - (T0.length : Int)) < (s.l : Int)) = true := decide_eq_true hb2
                clear hbad
                go_wp2_with fail
                go_ret2
                rw [HRN.out]
                exact ⟨rfl, HON6.out.fresh HB7.out⟩
            · have HU2 : Hid (uread gd o cap L lc lp pb dict (T0.length + many) gk (growN T r'.1.toNat s.l) st' r' y' = RES) := Lib.hid (by rw [← HU.out]; exact (uread_far hend HTS.out HOF.out HK0.out hbad).symm)
              have hb1 : ¬ min (T.length : Int) dict < r'.1 := fun h => hbad (.inl h)
              have hb1b : decide (min (T.length : Int) dict < r'.1) = false := decide_eq_false hb1
              have hb2 : ¬ (many : Int) - ((T.length : Int) - (T0.length : Int)) < (s.l : Int) := by omega
              have hb2b : decide ((many : Int) - ((T.length : Int) - (T0.length : Int)) < (s.l : Int)) = false := decide_eq_false hb2
              obtain ⟨bk, hbk⟩ : ∃ bk : Nat, r'.1 = (bk : Int) := ⟨r'.1.toNat, by omega⟩
              have hbkT : bk ≤ T.length := by omega
              have hbk1 : 1 ≤ bk := by omega
              have HSL : Hid (T.length + s.l ≤ T0.length + many ∧ 1 ≤ s.l) := Lib.hid ⟨by omega, by have h := sym_lpos (io := decIo gd o cap L) (lc := lc) (lp := lp) (pb := pb) (st := st) (r := r) (H := T) (k := 0) (b := 0) (l := 0) (d := 0) (q := 0) (x := y); rw [HTS.out] at h; exact h HK0.out⟩
              rw [hbk, Int.toNat_natCast] at HU2
              clear hbad
              have hbi : (1 : Int) ≤ (bk : Int) := by omega
              have hbTi : (bk : Int) ≤ (T.length : Int) := by omega
              go_wp2_with fail
              go_loopw [12, 84] (fun v i wr2 => ∃ (n : Nat) (vv : Value), n ≤ s.l ∧ vv = v ∧ i = .int .i64 (n : Nat) ∧ Hid (Own w.heap.size wr2 vv (growN T bk n)) ∧ Hid (Below w.heap.size w7 wr2)) (fun _ i _ => s.l - (intOf i).toNat)
              case atStart => exact ⟨0, _, Nat.zero_le _, rfl, rfl, HO7, Lib.hid (Below.refl _ _)⟩
              case round =>
                obtain ⟨n, v, hn, rfl, rfl, HO, HBW⟩ := hrel
                by_cases hnl : n < s.l
                · have hni : (n : Int) < (s.l : Int) := by omega
                  have hnb : decide ((n : Int) < (s.l : Int)) = true := decide_eq_true hni
                  obtain ⟨T2, hT⟩ : ∃ T2, growN T bk n = T2 := ⟨_, rfl⟩
                  have hTl : T2.length = T.length + n := by rw [← hT]; exact growN_length T bk n
                  rw [hT] at HO
                  obtain ⟨A2, c2, rfl, hc2, hm2, hB2⟩ := HO.out.read
                  have hLi : (T2.length : Int) ≤ 2000000 := by have := HSL.out; omega
                  have hc2i : (T2.length : Int) ≤ (c2 : Int) := by omega
                  obtain ⟨x, hx⟩ : ∃ x, T2.length - bk = x := ⟨_, rfl⟩
                  have hxi : (T2.length : Int) - (bk : Int) = (x : Int) := by omega
                  have hxl : (x : Int) < (T2.length : Int) := by omega
                  obtain ⟨g, off, rfl, _, hat⟩ := hB2.addr (by omega)
                  have cx := hat x (by omega)
                  have e1 := getD_of (d := T2) (i := x) (by omega)
                  rw [← e1] at cx
                  have HSUC : Hid (growN T bk (n + 1) = T2 ++ [T2.getD x 0]) := Lib.hid (by unfold growN; rw [hT, hx])
                  generalize T2.getD x 0 = u at *
                  obtain ⟨W4, hW4⟩ : ∃ W4, wr.alloc (.cells #[.int .u8 (u.toNat : Nat)] 5) = W4 := ⟨_, rfl⟩
                  have hbw : w.heap.size ≤ wr.heap.size := Nat.le_trans HON6.out.size (Nat.le_trans HB7.out.size HBW.out.size)
                  have hb4 : Below w.heap.size w7 W4 := by rw [← hW4]; exact HBW.out.alloc hbw _
                  have ho4 : Own w.heap.size W4 (.slice (some ⟨g, off, none⟩) T2.length c2) T2 := by rw [← hW4]; exact HO.out.alloc _
                  have hx4 : Bytes W4 (some ⟨wr.heap.size, 0, none⟩) [u] := by rw [← hW4]; exact lit_bytes wr u
                  have hb4s : w.heap.size ≤ W4.heap.size := by rw [← hW4]; simp; omega
                  have HW4 := Lib.hid hW4
                  have HB4 := Lib.hid hb4
                  have HB4S := Lib.hid hb4s
                  have HO4 := Lib.hid ho4
                  have HX4 := Lib.hid hx4
                  have HTL2 : Hid (T2.length ≤ 2000000) := Lib.hid (by omega)
                  clear hW4 hb4 ho4 hx4 hT hTl hc2 hm2 hB2 hx hat e1 hbw hb4s
                  go_wp2_with (at_builtin; rw [HW4.out]; refine wpList_append_bytes rfl (.tmp 86) (.tmp 94) rfl w.heap.size W4 _ T2 rfl HO4.out (some ⟨wr.heap.size, 0, none⟩) [u] 1 rfl HX4.out (by have := HTL2.out; simp; omega) HB4S.out ?_; intro v5 w5 ho5 hg5; have HO5 : Hid (Own w.heap.size w5 v5 (growN T bk (n + 1))) := Lib.hid (by rw [HSUC.out]; exact ho5); have HB5 := Lib.hid (below_grown HB4.out hg5 HB4S.out (fun g e => (HO4.out.from_base g e).1)); clear ho5 hg5)
                  exact ⟨⟨n + 1, _, by omega, rfl, by go_num, HO5, HB5⟩, by simp [intOf]; omega⟩
                · obtain rfl : n = s.l := by omega
                  have hnb : decide (((s.l : Nat) : Int) < ((s.l : Nat) : Int)) = false := decide_eq_false (by omega)
                  go_wp2_with fail
                  go_roundg gk
                  case measure => omega
                  case rel =>
                    have hk : ∀ i ∈ C :: Lb :: [gd, o], wr.heap[i]? = W6.heap[i]? := fun i hi => (HBW.out.block i (HLT.out i hi)).trans (HB7.out.block i (HLT.out i hi))
                    have hgl := growN_length T bk s.l
                    refine ⟨growN T bk s.l, st', r', y', v, rfl, ?_, ?_, ?_, HO, HU2, Lib.hid (HM6.out.keepAll (Nat.le_trans HB7.out.size HBW.out.size) hk), HST6, Lib.hid ((HON6.out.fresh HB7.out).fresh HBW.out)⟩ <;> rw [hgl] <;> (have h1 := HSL.out; have h2 := HTB.out; omega)
    · have hres : RES = some (T, st, r, y) := by rw [← HU.out]; exact uread_end (by omega)
      have HRN := Lib.hid hres
      have hendb : decide ((T.length : Int) - (T0.length : Int) < (many : Int)) = false := decide_eq_false (by omega)
      have hBF := hBT.cutFrom hT1 hcT
      have hfr : ¬ (T.length : Int) - (T0.length : Int) < (many : Int) := by omega
      obtain ⟨AF, hAF⟩ : ∃ AF, (if cT = T0.length then AT else AT.map (·.add T0.length)) = AF := ⟨_, rfl⟩
      rw [hAF] at hBF
      have HAF := Lib.hid hAF
      have HBF := Lib.hid hBF
      clear hres hBF hAF hBT
      go_wp2_with fail
      all_goals
        go_ret2
        rw [HRN.out]
      · refine ⟨AF, 0, ?_, by omega, by omega, HBF.out, _, HM.out, HON.out, fun i hi => .inl hi⟩
        rw [← HAF.out, if_pos (by first | assumption | omega)]; rfl
      · refine ⟨AF, cT - T0.length, ?_, by omega, by omega, HBF.out, _, HM.out, HON.out, fun i hi => .inl hi⟩
        rw [← HAF.out, if_neg (by assumption)]; rfl
end Go.Proofs.Ytdkimllfpiphgaa

/- UnmodelBack: the mathematics. -/
namespace Go.Proofs.Ytdkimllfpiphgaa
open Go.RowKit

theorem first_at {P : Nat → Prop} : ∀ (n : Nat), (∃ t, t < n ∧ P t) → ∃ t, t < n ∧ P t ∧ ∀ i, i < t → ¬ P i
  | 0, h => by obtain ⟨t, h1, _⟩ := h; omega
  | n + 1, h => by
    by_cases hn : ∃ t, t < n ∧ P t
    · obtain ⟨t, h1, h2, h3⟩ := first_at n hn
      exact ⟨t, by omega, h2, h3⟩
    · obtain ⟨t, h1, h2⟩ := h
      refine ⟨t, h1, h2, fun i hi hp => hn ⟨i, ?_, hp⟩⟩
      omega
theorem cut_ok {n : Nat} {dict r1 : Int} (hr : 1 ≤ r1) : cutOf n (max dict r1) = 0 ∨ (cutOf n (max dict r1) % 16 = 0 ∧ cutOf n (max dict r1) < n ∧ r1 ≤ ((n - cutOf n (max dict r1) : Nat) : Int) ∧ dict ≤ ((n - cutOf n (max dict r1) : Nat) : Int)) := by
  unfold cutOf
  obtain ⟨m, hm⟩ : ∃ m, (max ((n : Int) - max dict r1) 0).toNat = m := ⟨_, rfl⟩
  rw [hm]
  have h16 : m / 16 * 16 % 16 = 0 := Nat.mul_mod_left _ _
  have hle : m / 16 * 16 ≤ m := Nat.div_mul_le_self m 16
  generalize m / 16 * 16 = q at *
  omega
section
variable {g lc lp pb : Nat} {ss : List Sy} {M : Nat → MSt} {L : List UInt8} {gd o cap : Nat} {H0 : List UInt8} {dict : Int}
theorem Chain.mono (h : Chain g lc lp pb ss M) {i j : Nat} (hij : i ≤ j) (hj : j ≤ ss.length) : (M i).H.length + (j - i) ≤ (M j).H.length := by
  have := h.longer (j - i) i (by omega)
  rw [show i + (j - i) = j by omega] at this
  exact this
theorem fair0 : Fair (fun _ => 1024) := fun _ => ⟨show 1 ≤ 1024 by decide, show 1024 ≤ 2047 by decide⟩
theorem um_ok (h : Chain g lc lp pb ss M) (h0 : M 0 = ⟨H0, 0, (1, 1, 1, 1), (fun _ => 1024, st0)⟩) (hok : (M ss.length).x.2.ok) (hL : L = Rc.be (5 + (M ss.length).x.2.k) (M ss.length).x.2.v) (hlp : lp ≤ 4) (hpb : pb ≤ 4)
    (hd : ∀ i (hi : i < ss.length), ss[i].k ≠ 0 → distZ (M i).r (ss[i].k : Nat) (ss[i].d : Nat) (ss[i].r : Nat) ≤ dict) {many : Nat} (hm : H0.length + many = (M ss.length).H.length) :
    ∃ y', Sim (M ss.length).x.2 L (M ss.length).x y' ∧ uread gd o cap L lc lp pb dict (H0.length - cutOf H0.length (max dict 1) + many) many (H0.drop (cutOf H0.length (max dict 1))) 0 (1, 1, 1, 1) (fun _ => 1024, Rd.start L) = some ((M ss.length).H.drop (cutOf H0.length (max dict 1)), (M ss.length).st, (M ss.length).r, y') := by
  have hf0 : Fair (M 0).x.1 := by rw [h0]; exact fair0
  have hs0 : Sim (M ss.length).x.2 L (M 0).x (fun _ => 1024, Rd.start L) := by rw [h0]; exact sim_start hok hL
  have hcl := cutOf_le H0.length (show 0 ≤ max dict 1 by omega)
  have hM0 : (M 0).H.length = H0.length := by rw [h0]
  have hlong := h.mono (Nat.zero_le _) (Nat.le_refl _)
  obtain ⟨y', hs, hu⟩ := h.reads (gd := gd) (o := o) (cap := cap) (dict := dict) (fin := (M ss.length).H.length) hf0 hok hL hs0 ss.length (Nat.le_refl _) (fun i hi => ⟨by have := h.mono (show i + 1 ≤ ss.length from hi) (Nat.le_refl _); omega, hd i hi⟩)
  refine ⟨y', hs, ?_⟩
  rw [uread_trim hlp hpb many H0 0 (1, 1, 1, 1) _ (by unfold rPos; decide) (cut_ok (by decide))]
  have e1 : H0.length - cutOf H0.length (max dict 1) + many + cutOf H0.length (max dict 1) = (M ss.length).H.length := by omega
  have hu2 := hu (many - ss.length)
  rw [show many - ss.length + ss.length = many by omega, uread_end (Nat.le_refl _), h0] at hu2
  rw [e1]
  simp only at hu2
  rw [hu2]; rfl
theorem um_bad (h : Chain g lc lp pb ss M) (h0 : M 0 = ⟨H0, 0, (1, 1, 1, 1), (fun _ => 1024, st0)⟩) (hok : (M ss.length).x.2.ok) (hL : L = Rc.be (5 + (M ss.length).x.2.k) (M ss.length).x.2.v) (hlp : lp ≤ 4) (hpb : pb ≤ 4) {many t : Nat} (ht : t < ss.length)
    (hd : ∀ i (hi : i < t), (M (i + 1)).H.length ≤ H0.length + many ∧ (ss[i].k ≠ 0 → distZ (M i).r (ss[i].k : Nat) (ss[i].d : Nat) (ss[i].r : Nat) ≤ dict)) (h1 : (M t).H.length < H0.length + many) (hk : ss[t].k ≠ 0) (hb : dict < distZ (M t).r (ss[t].k : Nat) (ss[t].d : Nat) (ss[t].r : Nat) ∨ H0.length + many - (M t).H.length < ss[t].l) :
    uread gd o cap L lc lp pb dict (H0.length - cutOf H0.length (max dict 1) + many) many (H0.drop (cutOf H0.length (max dict 1))) 0 (1, 1, 1, 1) (fun _ => 1024, Rd.start L) = none := by
  have hf0 : Fair (M 0).x.1 := by rw [h0]; exact fair0
  have hs0 : Sim (M ss.length).x.2 L (M 0).x (fun _ => 1024, Rd.start L) := by rw [h0]; exact sim_start hok hL
  have hcl := cutOf_le H0.length (show 0 ≤ max dict 1 by omega)
  have hM0 : (M 0).H.length = H0.length := by rw [h0]
  have hlong := h.mono (Nat.zero_le t) (Nat.le_of_lt ht)
  obtain ⟨y', hs, hu⟩ := h.reads (gd := gd) (o := o) (cap := cap) (dict := dict) (fin := H0.length + many) hf0 hok hL hs0 t (Nat.le_of_lt ht) hd
  have hfail := h.fails (gd := gd) (o := o) (cap := cap) (dict := dict) (fin := H0.length + many) hf0 hok hL ht hs h1 hk hb (many - t)
  rw [uread_trim hlp hpb many H0 0 (1, 1, 1, 1) _ (by unfold rPos; decide) (cut_ok (by decide))]
  have e1 : H0.length - cutOf H0.length (max dict 1) + many + cutOf H0.length (max dict 1) = H0.length + many := by omega
  have hu2 := hu (many - t)
  rw [show many - t + t = many by omega, hfail, h0] at hu2
  rw [e1]
  simp only at hu2
  rw [hu2]; rfl
end
end Go.Proofs.Ytdkimllfpiphgaa

/- The rows of the document's examples, of unmodel; and where the law's loop begins. -/
namespace Go.Proofs.Ytdkimllfpiphgaa
open Go.RowKit

theorem Link.near {g lc lp pb : Nat} {a b : MSt} {s : Sy} (h : Link g lc lp pb a s b) (hk : s.k ≠ 0) : distZ a.r (s.k : Nat) (s.d : Nat) (s.r : Nat) ≤ (a.H.length : Int) := by
  obtain ⟨bk, hbk, h1, _⟩ := h.hist
  have := h1 (by omega)
  rw [hbk]; omega
set_option maxRecDepth 100000 in
set_option maxHeartbeats 2000000 in
theorem knows_any (w : World) : Calls Try.prog 6 #[] w (Holds w) := by
  have HNG : Hid (∀ w, Calls Try.prog 8 #[.int .i64 3, .int .i64 0, .int .i64 2] w (NewGood 3 0 2 w)) := Lib.hid (fun w => mnew_good 3 0 2 w (by decide) (by decide) (by decide) (by decide))
  go_enter Try.func6, Try.ntmps6
  go_wp2_with fail
  refine (HNG.out w).mono ?_
  rintro e w1 ⟨C, L, rfl, hM, hb1, hC, hL⟩
  have HM := Lib.hid hM
  have HB1 := Lib.hid hb1
  have HCL := Lib.hid (And.intro hC hL)
  clear hM hb1 hC hL
  go_wp2_with fail
  refine (new_any _).mono ?_
  rintro e w2 ⟨g, o, cap, rfl, hE, hb2, hg, ho⟩
  have hms := ms_start HM.out hb2 hE hg ho
  have hlo : ∀ i ∈ C :: L :: [g, o], w.heap.size ≤ i := by
    intro i hi
    simp only [List.mem_cons, List.not_mem_nil, or_false] at hi
    have := HB1.out.size
    rcases hi with rfl | rfl | rfl | rfl
    · exact HCL.out.1
    · exact HCL.out.2
    · omega
    · omega
  obtain ⟨s1, st1, r1, z1, hs1, hr1, hst1, _, hl1⟩ := fits_link (g := g) (lc := 3) (lp := 0) (pb := 2) (a := ⟨[], 0, (1, 1, 1, 1), (fun _ => 1024, st0)⟩) (k := 0) (b := 65) (l := 0) (d := 0) (q := 0) rGood1 (by decide)
  simp only at hs1 hr1 hst1
  have hst1' : st1 = 0 := by
    have h : stateAfter ((0 : Nat) : Int) 0 0 = 0 := by decide
    rw [h] at hst1; omega
  subst hst1'
  have hr1' : r1 = (1, 1, 1, 1) := hr1
  subst hr1'
  have hp := put_yes hms (by decide) (by decide) (by decide) (by decide) rGood1 (k := 160) none [] 0 (.nil (w := w2)) (by decide) (by decide) (by simp) 0 65 0 0 0 (by decide) hs1 (st0_oks g _ (by decide))
  have HP : Hid (Calls Try.prog 20 #[PF C, PF g, .slice none 0 0, .agg #[.int .i64 0, .int .u8 65, .int .i64 0, .int .i64 0, .int .i64 0]] w2 _) := Lib.hid hp
  have HB2 := Lib.hid (HB1.out.trans (hb2.mono HB1.out.size))
  have HL1 := Lib.hid (fun h => hl1 0 rfl h)
  have HLO := Lib.hid hlo
  clear hms hlo hs1 hr1 hst1 hp hE hb2 hg ho hl1
  go_wp2_with fail
  refine HP.out.mono ?_
  rintro e w3 ⟨⟨rfl, X3, hM3, hon3, hX3⟩, _, _, _, _, _, _, ok3⟩
  have hb3 := Only.below_of HB2.out hon3 HLO.out
  have hlo3 : ∀ i ∈ C :: L :: X3, w.heap.size ≤ i := by
    intro i hi
    simp only [List.mem_cons] at hi
    rcases hi with rfl | rfl | hi
    · exact HLO.out _ (by simp)
    · exact HLO.out _ (by simp)
    · rcases hX3 i hi with h | h
      · exact HLO.out i (by simp at h ⊢; exact .inr (.inr h))
      · exact Nat.le_trans HB2.out.size h
  have HK1 := Lib.hid (HL1.out ok3.1)
  obtain ⟨W4, hW4⟩ : ∃ W4, w3.alloc (.cells #[.int .u8 65] 5) = W4 := ⟨_, rfl⟩
  have hb4 : Below w3.heap.size w3 W4 := by rw [← hW4]; exact (Below.refl _ _).alloc (Nat.le_refl _) _
  have hby : Bytes W4 (some ⟨w3.heap.size, 0, none⟩) [65] := by rw [← hW4]; exact lit_bytes w3 65
  obtain ⟨s2, st2, r2, z2, hs2, hr2, hst2, _, hl2⟩ := fits_link (g := g) (lc := 3) (lp := 0) (pb := 2) (a := ⟨[65], 0, (1, 1, 1, 1), z1⟩) (k := 1) (b := 0) (l := 4) (d := 1) (q := 0) rGood1 (show fitsZ (1, 1, 1, 1) (([65] : List UInt8).length : Int) 1 4 1 0 = true by decide)
  simp only at hs2 hr2 hst2
  have hst2' : st2 = 7 := by
    have h : stateAfter ((0 : Nat) : Int) 1 4 = 7 := by decide
    rw [h] at hst2; omega
  subst hst2'
  have hr2' : r2 = (1, 1, 1, 1) := hr2
  subst hr2'
  have hp := put_yes (hM3.below hb4) (by decide) (by decide) (by decide) (by decide) rGood1 (k := 100) (some ⟨w3.heap.size, 0, none⟩) [65] 1 hby (by decide) (by decide) (by
    intro a e
    injection e with e
    subst e
    exact hM3.out_new (Nat.le_refl _)) 1 0 4 1 0 (by decide) hs2 ((encIo g).le ok3 (by decide))
  have HP2 : Hid (Calls Try.prog 20 #[PF C, PF g, .slice (some ⟨w3.heap.size, 0, none⟩) 1 1, .agg #[.int .i64 1, .int .u8 0, .int .i64 4, .int .i64 1, .int .i64 0]] W4 _) := Lib.hid hp
  have HW4 := Lib.hid hW4
  have HL2 := Lib.hid (fun h => hl2 1 rfl h)
  have HB4 := Lib.hid (hb3.trans (hb4.mono hb3.size))
  have HLO3 := Lib.hid hlo3
  clear hM3 hon3 hX3 ok3 hb3 hlo3 hW4 hb4 hby hs2 hr2 hst2 hp hl2
  go_upto_region 6 with fail
  go_wp2_with (first | rw [HW4.out] | fail)
  refine HP2.out.mono ?_
  rintro e w5 ⟨⟨rfl, X5, hM5, hon5, hX5⟩, _, _, _, _, _, _, ok5⟩
  have HB5 := Lib.hid (Only.below_of HB4.out hon5 HLO3.out)
  have HK2 := Lib.hid (HL2.out ok5.1)
  obtain ⟨_, hk1, hk2⟩ := enc_ok_small ok5
  obtain ⟨oE, capE, _, hE5⟩ := hM5.io
  have HBY := Lib.hid (bytes_any g oE capE z2.2 w5 hE5 hk1)
  obtain ⟨LB, hLB⟩ : ∃ LB, Rc.be (5 + z2.2.k) z2.2.v = LB := ⟨_, rfl⟩
  have hlenB : LB.length = 5 + z2.2.k := by rw [← hLB]; exact Rc.be_length _ _
  have hz0 : LB.getD 0 0 = 0 := by rw [← hLB]; exact agree_zero (be_agree z2.2) ok5.1 (by rw [Rc.be_length]; omega)
  rw [hLB] at HBY
  have HLB := Lib.hid (And.intro hLB (And.intro hz0 (And.intro (show 5 ≤ LB.length by omega) (show LB.length ≤ 140737488355328 by omega))))
  have HOK2 : Hid (z2.2.ok) := Lib.hid ok5.1
  have hlBi : (LB.length : Int) ≤ 140737488355328 := by omega
  clear hM5 hon5 hX5 ok5 hk1 hk2 hE5 hLB hlenB hz0
  go_wp2_with fail
  refine HBY.out.mono ?_
  rintro e w6 ⟨v6, rfl, hO6, hb6⟩
  obtain ⟨A6, c6, rfl, hc6, hm6, hB6⟩ := hO6.read
  have HDN := Lib.hid (dnew_good A6 LB c6 w6 hB6 HLB.out.2.2.1 HLB.out.2.2.2 HLB.out.2.1)
  have HB6 := Lib.hid (HB5.out.trans (hb6.mono HB5.out.size))
  clear hO6 hb6 hc6 hm6 hB6
  go_wp2_with fail
  refine HDN.out.mono ?_
  rintro e w7 ⟨g2, o2, cap2, rfl, hE2, hb7, hg2, ho2⟩
  have HE2 := Lib.hid (And.intro hE2 (And.intro hg2 ho2))
  have HB7 := Lib.hid (HB6.out.trans (hb7.mono HB6.out.size))
  clear hE2 hb7 hg2 ho2
  go_wp2_with fail
  refine (HNG.out w7).mono ?_
  rintro e w8 ⟨D, Mb, rfl, hMD, hb8, hD, hMb⟩
  have HB8 := Lib.hid (HB7.out.trans (hb8.mono HB7.out.size))
  have hms2 : MS (decIo g2 o2 cap2 LB) w8 D Mb 3 0 2 0 (1, 1, 1, 1) (fun _ => 1024, Rd.start LB) [g2, o2] := by
    obtain ⟨_, _, _, hT⟩ := id HE2.out.1
    have h1 := hT.glt
    have h2 := hT.lt
    exact ⟨hMD, ⟨rfl, HE2.out.1.below hb8⟩, by simp; omega, by simp; omega⟩
  obtain ⟨M, hM⟩ : ∃ M : Nat → MSt, M = fun t => if t = 0 then ⟨[], 0, (1, 1, 1, 1), (fun _ => 1024, st0)⟩ else if t = 1 then ⟨[65], 0, (1, 1, 1, 1), z1⟩ else ⟨[65, 65, 65, 65, 65], 7, (1, 1, 1, 1), z2⟩ := ⟨_, rfl⟩
  have hch : Chain g 3 0 2 [s1, s2] M := by
    intro t ht
    subst hM
    match t, ht with
    | 0, _ => exact HK1.out
    | 1, _ => exact HK2.out
  have hM2 : M [s1, s2].length = ⟨[65, 65, 65, 65, 65], 7, (1, 1, 1, 1), z2⟩ := by subst hM; rfl
  obtain ⟨y', hsim, hu⟩ := um_ok (gd := g2) (o := o2) (cap := cap2) (H0 := []) (dict := 10) hch (by subst hM; rfl) (by rw [hM2]; exact HOK2.out) (L := LB) (by rw [hM2]; exact HLB.out.1.symm) (by decide) (by decide) (fun i hi hk => by
    have h1 := (hch i hi).near hk
    have h2 := hch.mono (Nat.le_of_lt hi) (Nat.le_refl _)
    rw [hM2] at h2
    have h3 : [65, 65, 65, 65, 65].length = 5 := rfl
    simp only [List.length_cons, List.length_nil] at h2
    omega) (many := 5) (by rw [hM2]; rfl)
  rw [hM2] at hu
  have hrd := umread_good hms2 (by decide) (by decide) (by decide) (by decide) rGood1 ⟨Rd.start_ok HLB.out.2.2.1, HLB.out.2.2.2⟩ none [] 0 (.nil (w := w8)) (by decide) (by decide) 5 (by decide) 10 (by decide) (by decide)
  have HRD : Hid (Calls Try.prog 10 #[PF g2, PF D, .slice none 0 0, .int .i64 5, .int .i64 10] w8 (UmDone g2 o2 cap2 LB D Mb 3 0 2 [g2, o2] 0 (some ([65, 65, 65, 65, 65], 7, (1, 1, 1, 1), y')) w8)) := Lib.hid (hrd.mono fun e w' h => Eq.mp (congrArg (fun res => UmDone g2 o2 cap2 LB D Mb 3 0 2 [g2, o2] 0 res w8 e w') hu) h)
  have HLO8 : Hid (∀ i ∈ D :: Mb :: [g2, o2], w.heap.size ≤ i) := Lib.hid (by
    intro i hi
    have s6 := HB6.out.size
    have s7 := HB7.out.size
    have h1 := HE2.out.2
    simp only [List.mem_cons, List.not_mem_nil, or_false] at hi
    rcases hi with rfl | rfl | rfl | rfl <;> omega)
  clear hMD hb8 hD hMb hms2 hM hch hM2 hsim hu hrd HK1 HK2 HE2 HL1 HL2
  go_wp2_with fail
  refine HRD.out.mono ?_
  rintro e w9 ⟨A9, c9, rfl, hc9, hm9, hB9, X9, _, hon9, _⟩
  have HB9 := Lib.hid (Only.below_of HB8.out hon9 HLO8.out)
  have hs9 : (convert 22 9 (.slice A9 5 c9)).run Try.prog w9 = .ok (.string ⟨#[65, 65, 65, 65, 65]⟩) w9 := run_str hB9 c9
  have HUN := Lib.hid (umread_nil (PF D) (.slice none 0 0) 0 10 ⟨none, 0, 0, rfl⟩ w9)
  clear hon9 hB9 hc9 hm9
  go_wp2_with fail
  refine HUN.out.mono ?_
  rintro e w10 ⟨rfl, rfl⟩
  go_wp2_with fail
  go_ret
  exact ⟨rfl, HB9.out⟩
end Go.Proofs.Ytdkimllfpiphgaa
