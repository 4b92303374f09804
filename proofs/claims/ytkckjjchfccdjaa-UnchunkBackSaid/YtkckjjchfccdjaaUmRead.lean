/- unmodel's Read. -/
import Derived.Test.YtkckjjchfccdjaaMg17
import Derived.Test.YtkckjjchfccdjaaMg16
import Derived.Test.YtkckjjchfccdjaaMg28
namespace Go.Proofs.Ytkckjjchfccdjaa
set_option maxRecDepth 100000
open Go.RowKit

theorem Only.fresh {X : List Nat} {a b c : World} (h : Only X a b) (k : Below a.heap.size b c) : Only X a c :=
  ⟨k.os.trans h.os, k.tape.trans h.tape, k.output.trans h.output, Nat.le_trans h.size k.size, fun i hi hx => (k.block i hi).trans (h.block i hi hx)⟩
theorem Own.keepB {base : Nat} {w w' : World} {v : Value} {l : List UInt8} (h : Own base w v l) (hb : ∀ g, v.ownBlock = some g → w'.heap[g]? = w.heap[g]?) : Own base w' v l := by
  rcases h with ⟨h1, h2 | ⟨g, cap, cur, h2, h3, h4, h5⟩⟩
  · exact ⟨h1, .inl h2⟩
  · exact ⟨h1, .inr ⟨g, cap, cur, h2, h3, (hb g (by rw [h2]; rfl)).trans h4, h5⟩⟩
def UmDone (gd o cap : Nat) (L : List UInt8) (C Lb lc lp pb : Nat) (X : List Nat) (n0 : Nat) (res : Option (List UInt8 × Nat × R4 × PD)) (w : World) (e : Ending) (w' : World) : Prop :=
  match res with
  | none => e = .returned (.tuple #[.slice none 0 0, .int .i64 6]) ∧ Only (C :: Lb :: X) w w'
  | some (T, st, r, y) => ∃ A c, e = .returned (.tuple #[.slice A (T.length - n0) c, .int .i64 0]) ∧ T.length - n0 ≤ c ∧ c ≤ 9223372036854775807 ∧ Bytes w' A (T.drop n0) ∧ Went (decIo gd o cap L) C Lb lc lp pb st r y X w w'
theorem umread_nil (v h : Value) (many dict : Int) (hv : ∃ A n c, h = .slice A n c) (w : World) : Calls Try.prog 52 #[.pointer none, v, h, .int .i64 many, .int .i64 dict] w fun e w' => e = .returned (.tuple #[.slice none 0 0, .int .i64 1]) ∧ w = w' := by
  obtain ⟨A, n, c, rfl⟩ := hv
  go_enter Try.func52, Try.ntmps52
  go_wp2_with fail
  go_ret2
  exact ⟨rfl, rfl⟩
theorem umread_bad (g C : Nat) (A : Option Addr) (n c : Nat) (many dict : Int) (h : many < 0 ∨ dict < 1) (w : World) : Calls Try.prog 52 #[PF g, PF C, .slice A n c, .int .i64 many, .int .i64 dict] w fun e w' => e = .returned (.tuple #[.slice none 0 0, .int .i64 1]) ∧ w = w' := by
  by_cases h1 : many < 0
  · have h1b : decide (many < 0) = true := decide_eq_true h1
    go_enter Try.func52, Try.ntmps52
    go_wp2_with fail
    go_ret2
    exact ⟨rfl, rfl⟩
  · have h1b : decide (many < 0) = false := decide_eq_false h1
    have h2 : dict < 1 := by omega
    have h2b : decide (dict < 1) = true := decide_eq_true h2
    go_enter Try.func52, Try.ntmps52
    go_wp2_with fail
    go_ret2
    exact ⟨rfl, rfl⟩
/-- What was read, and that its state and its repeats are good. -/
def UmFine (res : Option (List UInt8 × Nat × R4 × PD)) : Prop := ∀ q, res = some q → q.2.1 < 12 ∧ rGood q.2.2.1
theorem UmFine.none : UmFine none := fun _ h => by cases h
theorem UmFine.some {T : List UInt8} {st : Nat} {r : R4} {y : PD} (h : st < 12 ∧ rGood r) : UmFine (some (T, st, r, y)) := fun _ e => by injection e with e; rw [← e]; exact h
set_option maxRecDepth 100000 in
set_option maxHeartbeats 4000000 in
theorem umread_big {gd o cap : Nat} {L : List UInt8} {C Lb lc lp pb st : Nat} {r : R4} {y : PD} {X : List Nat} {w : World} (hM : MS (decIo gd o cap L) w C Lb lc lp pb st r y X) (hlc : lc ≤ 4) (hlp : lp ≤ 4) (hpb : pb ≤ 4) (hst : st < 12) (hr : rGood r) (hok : (decIo gd o cap L).ok y.2 0)
    (A : Option Addr) (H : List UInt8) (c : Nat) (hB : Bytes w A H) (hc : H.length ≤ c) (hH : H.length ≤ 500000000) (many : Nat) (hmany : many ≤ 500000000) (dict : Int) (hd1 : 1 ≤ dict) (hd2 : dict ≤ 9223372036854775807) :
    Calls Try.prog 52 #[PF gd, PF C, .slice A H.length c, .int .i64 (many : Nat), .int .i64 dict] w (fun e w' => UmDone gd o cap L C Lb lc lp pb X (H.length - cutOf H.length (max dict r.1)) (uread gd o cap L lc lp pb dict (H.length - cutOf H.length (max dict r.1) + many) many (H.drop (cutOf H.length (max dict r.1))) st r y) w e w' ∧ UmFine (uread gd o cap L lc lp pb dict (H.length - cutOf H.length (max dict r.1) + many) many (H.drop (cutOf H.length (max dict r.1))) st r y)) := by
  have hr1 : 1 ≤ r.1 ∧ r.1 ≤ 4294967296 := ⟨hr.1.1, hr.2.1⟩
  obtain ⟨back, hback⟩ : ∃ back, max dict r.1 = back := ⟨_, rfl⟩
  have hb1 : 1 ≤ back := by omega
  have hb2 : back ≤ 9223372036854775807 := by omega
  have hcl := cutOf_le H.length (show 0 ≤ back by omega)
  have HRE := Lib.hid (fun W => reached_any A H c back W hc (by omega) hb1 hb2)
  rw [hback]
  obtain ⟨cut, hcut⟩ : ∃ cut, cutOf H.length back = cut := ⟨_, rfl⟩
  rw [hcut] at HRE hcl ⊢
  have hBT := hB.cutFrom hcl hc
  have hTl : (H.drop cut).length = H.length - cut := List.length_drop
  obtain ⟨T0, hT0⟩ : ∃ T0, H.drop cut = T0 := ⟨_, rfl⟩
  rw [hT0] at hBT hTl ⊢
  obtain ⟨n0, hn0⟩ : ∃ n0, H.length - cut = n0 := ⟨_, rfl⟩
  rw [hn0] at HRE hTl ⊢
  obtain ⟨AT, hAT⟩ : ∃ AT, (if c = cut then A else A.map (·.add cut)) = AT := ⟨_, rfl⟩
  rw [hAT] at HRE hBT
  obtain ⟨cT, hcT⟩ : ∃ cT, c - cut = cT := ⟨_, rfl⟩
  rw [hcT] at HRE
  obtain ⟨RES, hRES⟩ : ∃ RES, uread gd o cap L lc lp pb dict (n0 + many) many T0 st r y = RES := ⟨_, rfl⟩
  rw [hRES]
  have HRES := Lib.hid hRES
  obtain rfl : X = [gd, o] := hM.io.1
  have HM := Lib.hid hM
  have HBT := Lib.hid hBT
  have HTL := Lib.hid hTl
  have HPAR := Lib.hid (And.intro hlc (And.intro hlp hpb))
  have HST := Lib.hid (And.intro hst (And.intro hr hok))
  have hni : (n0 : Int) ≤ 500000000 := by omega
  have hnn : n0 ≤ 500000000 := by omega
  have hmi : (many : Int) ≤ 500000000 := by omega
  have hlt := hM.ltall
  have HLT := Lib.hid hlt
  have HBK := Lib.hid hback
  have hd1b : decide (dict < 1) = false := decide_eq_false (by omega)
  have hm0 : decide ((many : Int) < 0) = false := decide_eq_false (by omega)
  clear hM hB hBT hc hH hcl hcut hT0 hn0 hAT hcT hRES hlc hlp hpb hst hr hok hlt hTl hback
  go_enter Try.func52, Try.ntmps52
  go_wp2_with fail
  refine (repeats_any HM.out.mod).mono ?_
  rintro e w1 ⟨rfl, hb1'⟩
  have ix := ix4_0 r.1 r.2.1 r.2.2.1 r.2.2.2 w1
  have HB1 := Lib.hid hb1'
  clear hb1'
  go_wp2_with fail
  rw [HBK.out]
  refine (HRE.out w1).mono ?_
  rintro e w1' ⟨rfl, rfl⟩
  clear ix
  go_upto_region 4 with (at_builtin; refine wpList_append_bytes rfl (.const (.slice none 0 0)) (.tmp 36) rfl w.heap.size w1 _ [] rfl (Own.nil _ _) AT T0 cT (by rw [HTL.out]; rfl) (HBT.out.below HB1.out) (by rw [HTL.out]; simp; omega) HB1.out.size ?_; intro v2 w2 ho2 hg2; have HO2 := Lib.hid (show Own w.heap.size w2 v2 T0 from ho2); have HB2 := Lib.hid (below_grown HB1.out hg2 HB1.out.size (fun g e => by cases e)); clear ho2 hg2)
  have eT := HTL.out
  subst eT
  obtain ⟨A2, c2, rfl, hc2, hm2, _⟩ := HO2.out.read
  have hc2i : (T0.length : Int) ≤ (c2 : Int) := by omega
  have HM2 : Hid (MS (decIo gd o cap L) w2 C Lb lc lp pb st r y [gd, o]) := Lib.hid (HM.out.keepAll HB2.out.size (fun i hi => HB2.out.block i (HLT.out i hi)))
  have HON2 : Hid (Only (C :: Lb :: [gd, o]) w w2) := Lib.hid (Only.of_below HB2.out)
  clear hc2 hm2
  go_wp2_with fail
  go_loopg [12] many (fun gk v wr => ∃ (T : List UInt8) (st : Nat) (r : R4) (y : PD) (vv : Value), vv = v ∧ T0.length ≤ T.length ∧ T.length ≤ T0.length + many ∧ T0.length + many ≤ T.length + gk ∧ Hid (Own w.heap.size wr vv T) ∧ Hid (uread gd o cap L lc lp pb dict (T0.length + many) gk T st r y = RES) ∧ Hid (MS (decIo gd o cap L) wr C Lb lc lp pb st r y [gd, o]) ∧ Hid (st < 12 ∧ rGood r ∧ (decIo gd o cap L).ok y.2 0) ∧ Hid (Only (C :: Lb :: [gd, o]) w wr))
  case atStart => exact ⟨T0, st, r, y, _, rfl, Nat.le_refl _, Nat.le_add_right _ _, Nat.le_refl _, HO2, HRES, HM2, HST, HON2⟩
  case round =>
    obtain ⟨T, st, r, y, v, rfl, hT1, hT2, hT3, HO, HU, HM, HST, HON⟩ := hrel
    obtain ⟨AT, cT, rfl, hcT, hmT, hBT⟩ := HO.out.read
    have hTi : (T.length : Int) ≤ 1000000000 := by omega
    have hTi0 : (T0.length : Int) ≤ (T.length : Int) := by omega
    have hcTi : (T.length : Int) ≤ (cT : Int) := by omega
    have HTB := Lib.hid (And.intro hT1 (And.intro hT2 hT3))
    have hsz := HON.out.size
    by_cases hend : T.length < T0.length + many
    · have hendi : (T.length : Int) - (T0.length : Int) < (many : Int) := by omega
      cases gk with
      | zero => omega
      | succ gk =>
        obtain ⟨⟨s, st', r', y'⟩, ht⟩ : ∃ t, Md.sym (decIo gd o cap L) lc lp pb st r T 0 0 0 0 0 y = t := ⟨_, rfl⟩
        have hk := sym_is (decIo gd o cap L) HM.out HPAR.out.1 HPAR.out.2.1 HPAR.out.2.2 HST.out.1 HST.out.2.1 (k := 0) AT T cT hBT hcT (by omega) (fun a e => fun hm => by have h1 := (HO.out.from_base a.block (by rw [e]; rfl)).1; have := HLT.out _ hm; omega) 0 0 0 0 0 (fun _ => ⟨by decide, by decide⟩) (fun _ _ => ⟨by decide, by decide⟩) ht HST.out.2.2
        have HKD : Hid (Calls Try.prog 70 #[PF C, .iface 134 (.pointer (some ⟨gd, 0, none⟩)), .slice AT T.length cT, .agg #[.int .i64 0, .int .u8 0, .int .i64 0, .int .i64 0, .int .i64 0]] wr _) := Lib.hid hk
        have HTS := Lib.hid ht
        clear hk ht hBT hcT hmT
        go_wp2_with fail
        refine HKD.out.mono ?_
        rintro e w5 ⟨⟨rfl, X5, hM5, hon5, _⟩, hk2, hr3, hl273, _, hst12, hrg, hok5⟩
        obtain rfl : X5 = [gd, o] := hM5.io.1
        have hO5 : Own w.heap.size w5 (.slice AT T.length cT) T := HO.out.keepB fun g e => by
          have h1 := HO.out.from_base g e
          exact hon5.block g h1.2 (fun hm => by have := HLT.out _ hm; omega)
        have hl273i : (s.l : Int) ≤ 273 := by omega
        have HON5 : Hid (Only (C :: Lb :: [gd, o]) w w5) := Lib.hid (HON.out.trans hon5 (fun i hi => .inl hi))
        obtain ⟨W6, hW6⟩ : ∃ W, w5.alloc (.cells #[.int .i64 (s.k : Nat), .int .u8 (s.b.toNat : Nat), .int .i64 (s.l : Nat), .int .i64 (s.d : Nat), .int .i64 (s.r : Nat)] 99) = W := ⟨_, rfl⟩
        obtain ⟨y0, y1, y2, y3, y4, hb6⟩ := sy_box hW6
        have hlt6 := block_lt_of_cell y0
        have HB6 : Hid (Below w.heap.size w5 W6) := Lib.hid (hb6.mono HON5.out.size)
        have HM6 := Lib.hid (hM5.below hb6)
        have HO6 : Hid (Own w.heap.size W6 (.slice AT T.length cT) T) := Lib.hid (hO5.below hb6)
        have HST6 := Lib.hid (And.intro hst12 (And.intro hrg hok5))
        have HON6 : Hid (Only (C :: Lb :: [gd, o]) w W6) := Lib.hid (HON5.out.fresh HB6.out)
        have HW6 := Lib.hid hW6
        have HOUT := Lib.hid (out_any gd o cap L y'.2 W6 HM6.out.io.2)
        have HL273 := Lib.hid hl273
        clear hM5 hon5 hst12 hrg hok5 hO5 hW6 hb6 HKD HM HO
        go_upto_region 7 with fail
        rw [HW6.out]
        cases hout : y'.2.out with
        | true =>
          have hres : RES = none := by rw [← HU.out]; exact uread_out hend HTS.out hout
          rw [hout] at HOUT
          have HRN := Lib.hid hres
          clear hres hout
          go_wp2_with fail
          refine HOUT.out.mono ?_
          rintro e w7 ⟨rfl, rfl⟩
          go_wp2_with fail
          go_ret2
          rw [HRN.out]
          exact ⟨⟨rfl, HON6.out⟩, .none⟩
        | false =>
          rw [hout] at HOUT
          have HOF := Lib.hid hout
          clear hout
          go_wp2_with fail
          refine HOUT.out.mono ?_
          rintro e w7 ⟨rfl, rfl⟩
          by_cases hk0 : s.k = 0
          · have HU2 : Hid (uread gd o cap L lc lp pb dict (T0.length + many) gk (T ++ [s.b]) st' r' y' = RES) := Lib.hid (by rw [← HU.out]; exact (uread_lit hend HTS.out HOF.out hk0).symm)
            have hk0b : (((s.k : Nat) : Int) == 0) = true := by rw [hk0]; rfl
            obtain ⟨W8, hW8⟩ : ∃ W, W6.alloc (.cells #[.int .u8 (s.b.toNat : Nat)] 5) = W := ⟨_, rfl⟩
            have hb8 : Below w.heap.size W6 W8 := by rw [← hW8]; exact (Below.refl _ _).alloc HON6.out.size _
            have ho8 : Own w.heap.size W8 (.slice AT T.length cT) T := by rw [← hW8]; exact HO6.out.alloc _
            have hx8 : Bytes W8 (some ⟨W6.heap.size, 0, none⟩) [s.b] := by rw [← hW8]; exact lit_bytes W6 s.b
            have HW8 := Lib.hid hW8
            have HB8 := Lib.hid hb8
            have HO8 := Lib.hid ho8
            have HX8 := Lib.hid hx8
            have hsz8 : Hid (w.heap.size ≤ W8.heap.size) := Lib.hid (Nat.le_trans HON6.out.size hb8.size)
            have HT2M : Hid (T.length ≤ 1000000000) := Lib.hid (by omega)
            clear hW8 hb8 ho8 hx8 hk0
            go_wp2_with (at_builtin; rw [HW8.out]; refine wpList_append_bytes rfl (.tmp 57) (.tmp 60) rfl w.heap.size W8 _ T rfl HO8.out (some ⟨W6.heap.size, 0, none⟩) [s.b] 1 rfl HX8.out (by have := HT2M.out; simp; omega) hsz8.out ?_; intro v9 w9 ho9 hg9; have HO9 : Hid (Own w.heap.size w9 v9 (T ++ [s.b])) := Lib.hid ho9; have HB9 := Lib.hid (below_grown HB8.out hg9 hsz8.out (fun g e => (HO8.out.from_base g e).1)); clear ho9 hg9)
            go_roundg gk
            case measure => omega
            case rel =>
              refine ⟨T ++ [s.b], st', r', y', v9, rfl, ?_, ?_, ?_, HO9, HU2, Lib.hid (HM6.out.keepAll HB9.out.size (fun i hi => HB9.out.block i (HLT.out i hi))), HST6, Lib.hid (HON6.out.fresh HB9.out)⟩ <;> rw [List.length_append, List.length_singleton] <;> omega
          · have hk0b : (((s.k : Nat) : Int) == 0) = false := beq_eq_false_iff_ne.2 (by omega)
            have HRP := Lib.hid (repeats_any HM6.out.mod)
            have HK0 := Lib.hid hk0
            clear hk0
            go_wp2_with fail
            refine HRP.out.mono ?_
            rintro e w7 ⟨rfl, hb7⟩
            have ix := ix4_0 r'.1 r'.2.1 r'.2.2.1 r'.2.2.2 w7
            have z2 := (hb7.cell (p := ⟨w5.heap.size, 2, none⟩) hlt6).trans y2
            have HB7 : Hid (Below w.heap.size W6 w7) := Lib.hid (hb7.mono HON6.out.size)
            have HO7 : Hid (Own w.heap.size w7 (.slice AT T.length cT) T) := Lib.hid (HO6.out.below hb7)
            have HR1 : Hid (1 ≤ r'.1) := Lib.hid HST6.out.2.1.1.1
            have hr1i : r'.1 ≤ 4294967296 := HST6.out.2.1.2.1
            have hr1j : 1 ≤ r'.1 := HR1.out
            clear hb7 y0 y1 y2 y3 y4
            by_cases hbad : min (T.length : Int) dict < r'.1 ∨ T0.length + many - T.length < s.l
            · have hres : RES = none := by rw [← HU.out]; exact uread_bad hend HTS.out HK0.out hbad
              have HRN := Lib.hid hres
              clear hres
              by_cases hb1 : min (T.length : Int) dict < r'.1
              · have hb1b : decide (min (T.length : Int) dict < r'.1) = true := decide_eq_true hb1
                clear hbad
                go_wp2_with fail
                go_ret2
                rw [HRN.out]
                exact ⟨⟨rfl, HON6.out.fresh HB7.out⟩, .none⟩
              · have hb1b : decide (min (T.length : Int) dict < r'.1) = false := decide_eq_false hb1
                have hb2 : (many : Int) - ((T.length : Int) - (T0.length : Int)) < (s.l : Int) := by omega
                have hb2b : decide ((many : Int) - ((T.length : Int) - (T0.length : Int)) < (s.l : Int)) = true := decide_eq_true hb2
                clear hbad
                go_wp2_with fail
                go_ret2
                rw [HRN.out]
                exact ⟨⟨rfl, HON6.out.fresh HB7.out⟩, .none⟩
            · have HU2 : Hid (uread gd o cap L lc lp pb dict (T0.length + many) gk (growN T r'.1.toNat s.l) st' r' y' = RES) := Lib.hid (by rw [← HU.out]; exact (uread_far hend HTS.out HOF.out HK0.out hbad).symm)
              have hb1 : ¬ min (T.length : Int) dict < r'.1 := fun h => hbad (.inl h)
              have hb1b : decide (min (T.length : Int) dict < r'.1) = false := decide_eq_false hb1
              have hb2 : ¬ (many : Int) - ((T.length : Int) - (T0.length : Int)) < (s.l : Int) := by omega
              have hb2b : decide ((many : Int) - ((T.length : Int) - (T0.length : Int)) < (s.l : Int)) = false := decide_eq_false hb2
              obtain ⟨bk, hbk⟩ : ∃ bk : Nat, r'.1 = (bk : Int) := ⟨r'.1.toNat, by omega⟩
              have hbkT : bk ≤ T.length := by omega
              have hbk1 : 1 ≤ bk := by omega
              have HSL : Hid (T.length + s.l ≤ T0.length + many ∧ 1 ≤ s.l) := Lib.hid ⟨by omega, by have h := sym_lpos (io := decIo gd o cap L) (lc := lc) (lp := lp) (pb := pb) (st := st) (r := r) (H := T) (k := 0) (b := 0) (l := 0) (d := 0) (q := 0) (x := y); rw [HTS.out] at h; exact h HK0.out⟩
              rw [hbk, Int.toNat_natCast] at HU2
              clear hbad
              have hbi : (1 : Int) ≤ (bk : Int) := by omega
              have hbTi : (bk : Int) ≤ (T.length : Int) := by omega
              go_wp2_with fail
              go_loopw [12, 84] (fun v i wr2 => ∃ (n : Nat) (vv : Value), n ≤ s.l ∧ vv = v ∧ i = .int .i64 (n : Nat) ∧ Hid (Own w.heap.size wr2 vv (growN T bk n)) ∧ Hid (Below w.heap.size w7 wr2)) (fun _ i _ => s.l - (intOf i).toNat)
              case atStart => exact ⟨0, _, Nat.zero_le _, rfl, rfl, HO7, Lib.hid (Below.refl _ _)⟩
              case round =>
                obtain ⟨n, v, hn, rfl, rfl, HO, HBW⟩ := hrel
                by_cases hnl : n < s.l
                · have hni : (n : Int) < (s.l : Int) := by omega
                  have hnb : decide ((n : Int) < (s.l : Int)) = true := decide_eq_true hni
                  obtain ⟨T2, hT⟩ : ∃ T2, growN T bk n = T2 := ⟨_, rfl⟩
                  have hTl : T2.length = T.length + n := by rw [← hT]; exact growN_length T bk n
                  rw [hT] at HO
                  obtain ⟨A2, c2, rfl, hc2, hm2, hB2⟩ := HO.out.read
                  have hLi : (T2.length : Int) ≤ 1000000000 := by have := HSL.out; omega
                  have hc2i : (T2.length : Int) ≤ (c2 : Int) := by omega
                  obtain ⟨x, hx⟩ : ∃ x, T2.length - bk = x := ⟨_, rfl⟩
                  have hxi : (T2.length : Int) - (bk : Int) = (x : Int) := by omega
                  have hxl : (x : Int) < (T2.length : Int) := by omega
                  obtain ⟨g, off, rfl, _, hat⟩ := hB2.addr (by omega)
                  have cx := hat x (by omega)
                  have e1 := getD_of (d := T2) (i := x) (by omega)
                  rw [← e1] at cx
                  have HSUC : Hid (growN T bk (n + 1) = T2 ++ [T2.getD x 0]) := Lib.hid (by unfold growN; rw [hT, hx])
                  generalize T2.getD x 0 = u at *
                  obtain ⟨W4, hW4⟩ : ∃ W4, wr.alloc (.cells #[.int .u8 (u.toNat : Nat)] 5) = W4 := ⟨_, rfl⟩
                  have hbw : w.heap.size ≤ wr.heap.size := Nat.le_trans HON6.out.size (Nat.le_trans HB7.out.size HBW.out.size)
                  have hb4 : Below w.heap.size w7 W4 := by rw [← hW4]; exact HBW.out.alloc hbw _
                  have ho4 : Own w.heap.size W4 (.slice (some ⟨g, off, none⟩) T2.length c2) T2 := by rw [← hW4]; exact HO.out.alloc _
                  have hx4 : Bytes W4 (some ⟨wr.heap.size, 0, none⟩) [u] := by rw [← hW4]; exact lit_bytes wr u
                  have hb4s : w.heap.size ≤ W4.heap.size := by rw [← hW4]; simp; omega
                  have HW4 := Lib.hid hW4
                  have HB4 := Lib.hid hb4
                  have HB4S := Lib.hid hb4s
                  have HO4 := Lib.hid ho4
                  have HX4 := Lib.hid hx4
                  have HTL2 : Hid (T2.length ≤ 1000000000) := Lib.hid (by omega)
                  clear hW4 hb4 ho4 hx4 hT hTl hc2 hm2 hB2 hx hat e1 hbw hb4s
                  go_wp2_with (at_builtin; rw [HW4.out]; refine wpList_append_bytes rfl (.tmp 86) (.tmp 94) rfl w.heap.size W4 _ T2 rfl HO4.out (some ⟨wr.heap.size, 0, none⟩) [u] 1 rfl HX4.out (by have := HTL2.out; simp; omega) HB4S.out ?_; intro v5 w5 ho5 hg5; have HO5 : Hid (Own w.heap.size w5 v5 (growN T bk (n + 1))) := Lib.hid (by rw [HSUC.out]; exact ho5); have HB5 := Lib.hid (below_grown HB4.out hg5 HB4S.out (fun g e => (HO4.out.from_base g e).1)); clear ho5 hg5)
                  exact ⟨⟨n + 1, _, by omega, rfl, by go_num, HO5, HB5⟩, by simp [intOf]; omega⟩
                · obtain rfl : n = s.l := by omega
                  have hnb : decide (((s.l : Nat) : Int) < ((s.l : Nat) : Int)) = false := decide_eq_false (by omega)
                  go_wp2_with fail
                  go_roundg gk
                  case measure => omega
                  case rel =>
                    have hk : ∀ i ∈ C :: Lb :: [gd, o], wr.heap[i]? = W6.heap[i]? := fun i hi => (HBW.out.block i (HLT.out i hi)).trans (HB7.out.block i (HLT.out i hi))
                    have hgl := growN_length T bk s.l
                    refine ⟨growN T bk s.l, st', r', y', v, rfl, ?_, ?_, ?_, HO, HU2, Lib.hid (HM6.out.keepAll (Nat.le_trans HB7.out.size HBW.out.size) hk), HST6, Lib.hid ((HON6.out.fresh HB7.out).fresh HBW.out)⟩ <;> rw [hgl] <;> (have h1 := HSL.out; have h2 := HTB.out; omega)
    · have hres : RES = some (T, st, r, y) := by rw [← HU.out]; exact uread_end (by omega)
      have HRN := Lib.hid hres
      have hendb : decide ((T.length : Int) - (T0.length : Int) < (many : Int)) = false := decide_eq_false (by omega)
      have hBF := hBT.cutFrom hT1 hcT
      have hfr : ¬ (T.length : Int) - (T0.length : Int) < (many : Int) := by omega
      obtain ⟨AF, hAF⟩ : ∃ AF, (if cT = T0.length then AT else AT.map (·.add T0.length)) = AF := ⟨_, rfl⟩
      rw [hAF] at hBF
      have HAF := Lib.hid hAF
      have HBF := Lib.hid hBF
      clear hres hBF hAF hBT
      go_wp2_with fail
      all_goals
        go_ret2
        rw [HRN.out]
      · refine ⟨⟨AF, 0, ?_, by omega, by omega, HBF.out, _, HM.out, HON.out, fun i hi => .inl hi⟩, .some ⟨HST.out.1, HST.out.2.1⟩⟩
        rw [← HAF.out, if_pos (by first | assumption | omega)]; rfl
      · refine ⟨⟨AF, cT - T0.length, ?_, by omega, by omega, HBF.out, _, HM.out, HON.out, fun i hi => .inl hi⟩, .some ⟨HST.out.1, HST.out.2.1⟩⟩
        rw [← HAF.out, if_neg (by assumption)]; rfl
theorem umread_good {gd o cap : Nat} {L : List UInt8} {C Lb lc lp pb st : Nat} {r : R4} {y : PD} {X : List Nat} {w : World} (hM : MS (decIo gd o cap L) w C Lb lc lp pb st r y X) (hlc : lc ≤ 4) (hlp : lp ≤ 4) (hpb : pb ≤ 4) (hst : st < 12) (hr : rGood r) (hok : (decIo gd o cap L).ok y.2 0)
    (A : Option Addr) (H : List UInt8) (c : Nat) (hB : Bytes w A H) (hc : H.length ≤ c) (hH : H.length ≤ 1000000) (many : Nat) (hmany : many ≤ 1000000) (dict : Int) (hd1 : 1 ≤ dict) (hd2 : dict ≤ 9223372036854775807) :
    Calls Try.prog 52 #[PF gd, PF C, .slice A H.length c, .int .i64 (many : Nat), .int .i64 dict] w (UmDone gd o cap L C Lb lc lp pb X (H.length - cutOf H.length (max dict r.1)) (uread gd o cap L lc lp pb dict (H.length - cutOf H.length (max dict r.1) + many) many (H.drop (cutOf H.length (max dict r.1))) st r y) w) :=
  (umread_big hM hlc hlp hpb hst hr hok A H c hB hc (by omega) many (by omega) dict hd1 hd2).mono fun _ _ h => h.1
end Go.Proofs.Ytkckjjchfccdjaa
