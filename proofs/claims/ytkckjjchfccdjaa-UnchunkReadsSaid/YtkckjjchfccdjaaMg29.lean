/- Several texts in one: UrPack, UrRead. -/
import Derived.Test.YtkckjjchfccdjaaMg27
import Derived.Test.YtkckjjchfccdjaaUrPackA
import Derived.Test.YtkckjjchfccdjaaUrPackB
import Derived.Test.YtkckjjchfccdjaaMg28
import Derived.Test.YtkckjjchfccdjaaUrPackE
/- The document's Reader: a packed chunk, all together. -/
namespace Go.Proofs.Ytkckjjchfccdjaa
set_option maxRecDepth 100000
open Go.RowKit

set_option maxHeartbeats 16000000 in
theorem urunpack_any {k : RkP} {w : World} {pos : Nat} {s : CkS} (h : Rk k w pos s) (c : Nat) (hc1 : 128 ≤ c) (hc2 : c < 256) (hcl : s.clear = true) (hca : ¬ (c < 192 ∧ s.asked = true)) (ho : s.out.length ≤ 400000000) (hd1 : 1 ≤ k.dict) (hd2 : k.dict ≤ 9223372036854775807) :
    Calls Try.prog 14 #[PF k.R, .int .i64 (c : Nat)] w (RkDone k (unpackC k.B k.dict c pos s)) := by
  by_cases h1 : k.B.length < pos + 4
  · by_cases hq : c < 192
    · exact urunpack_shortL h c hc1 hc2 hcl hca ho hd1 hd2 h1 hq
    · exact urunpack_shortH h c hc1 hc2 hcl hca ho hd1 hd2 h1 (by omega)
  · by_cases hq : c < 192
    · by_cases h160 : c < 160
      · exact urunpack_A h c hc1 hc2 hcl hca ho hd1 hd2 h1 h160
      · exact urunpack_B h c hc1 hc2 hcl hca ho hd1 hd2 h1 h160 hq
    · by_cases h5 : k.B.length < pos + 4 + 1
      · exact urunpack_C h c hc1 hc2 hcl hca ho hd1 hd2 h1 (by omega) h5
      · cases hpq : permB (((k.B.getD (pos + 4) 0).toNat % 9 : Nat) : Int) (((k.B.getD (pos + 4) 0).toNat / 9 % 5 : Nat) : Int) (((k.B.getD (pos + 4) 0).toNat / 45 : Nat) : Int) with
        | false => exact urunpack_D h c hc1 hc2 hcl hca ho hd1 hd2 h1 (by omega) h5 hpq
        | true => exact urunpack_E h c hc1 hc2 hcl hca ho hd1 hd2 h1 (by omega) h5 hpq
end Go.Proofs.Ytkckjjchfccdjaa

/- The document's Reader: all chunks. -/
namespace Go.Proofs.Ytkckjjchfccdjaa
set_option maxRecDepth 100000
open Go.RowKit

set_option maxHeartbeats 8000000 in
theorem urread_any (A : Option Addr) (B : List UInt8) (c : Nat) (dict : Int) (w : World) (hB : Bytes w A B) (hA : ∀ a, A = some a → a.block < w.heap.size) (hc : B.length ≤ c) (hm : c ≤ 9223372036854775807) (hl : B.length ≤ 1000000000) (hd1 : 1 ≤ dict) (hd2 : dict ≤ 9223372036854775807) {fuel : Nat} (hf : B.length < fuel) (hsh : CkShort B dict fuel 0 ck0) :
    Calls Try.prog 7 #[.slice A B.length c, .int .i64 dict] w (UcDone w (unchunkAll B dict fuel 0 ck0)) := by
  obtain ⟨RES, hRES⟩ : ∃ R, unchunkAll B dict fuel 0 ck0 = R := ⟨_, rfl⟩
  rw [hRES]
  obtain ⟨W, hW⟩ : ∃ W, w.alloc (.cells #[.slice A B.length c, .int .i64 0, .int .i64 dict, .slice none 0 0, .int .i64 0, .bool false, .bool false, .int .i64 0, .int .i64 0, .int .i64 0, .pointer none] 48) = W := ⟨_, rfl⟩
  obtain ⟨R, hR⟩ : ∃ n, w.heap.size = n := ⟨_, rfl⟩
  have hk0 : Rk ⟨w.heap.size, w, R, A, B, c, dict⟩ W 0 ck0 := by
    subst hR
    have hb3 : Below w.heap.size w W := by rw [← hW]; exact (Below.refl _ _).alloc (Nat.le_refl _) _
    refine ⟨.pointer none, ⟨⟨.slice none 0 0, ?_, Own.nil _ _⟩, Nat.le_refl _, ⟨hB.below hb3, hA⟩, ⟨hc, hm, by show B.length ≤ _; omega, Nat.zero_le _, Nat.le_refl _⟩, hb3, Nat.le_refl _⟩, fun h _ => by cases h⟩
    rw [← hW]
    exact heap_alloc_last _ _
  have HK0 := Lib.hid hk0
  have HW := Lib.hid hW
  have HNUM := Lib.hid hR
  have HD := Lib.hid (And.intro hd1 hd2)
  have HF := Lib.hid (And.intro hf (And.intro hsh hRES))
  have HA := Lib.hid (And.intro hB (And.intro hA hc))
  have hli : (B.length : Int) ≤ 1000000000 := by omega
  have hci : (B.length : Int) ≤ (c : Int) := by omega
  clear hR hk0 hW hd1 hd2 hf hsh hRES hB hA hc hm hl
  go_enter Try.func7, Try.ntmps7
  go_wp2_with fail
  rw [HW.out, HNUM.out]
  go_loopg [] fuel (fun gk wr => ∃ (pos : Nat) (s : CkS), Hid (Rk ⟨w.heap.size, w, R, A, B, c, dict⟩ wr pos s) ∧ Hid (B.length < pos + gk ∧ CkShort B dict gk pos s ∧ unchunkAll B dict gk pos s = RES))
  case atStart => exact ⟨0, ck0, HK0, Lib.hid ⟨by have := HF.out.1; omega, HF.out.2⟩⟩
  case round =>
    obtain ⟨pos, s, HK, HT⟩ := hrel
    cases gk with
    | zero =>
      obtain ⟨cv, hU, _⟩ := HK.out
      have h1 := HT.out.1
      have h2 : pos ≤ B.length := hU.nums.2.2.2.1
      omega
    | succ gk =>
      have HH : Hid (Calls Try.prog 12 #[PF R, .int .i64 1] wr fun e w' => e = .returned (.bool (decide (pos + 1 ≤ B.length))) ∧ Below wr.heap.size wr w') := Lib.hid (urhas_any HK.out 1)
      by_cases h1 : B.length < pos + 1
      · have hres : ([], 0, 2) = RES := by have h := HT.out.2.2; unfold unchunkAll at h; rw [if_pos h1] at h; exact h
        have HR := Lib.hid hres
        rw [decide_eq_false (show ¬ pos + 1 ≤ B.length by omega)] at HH
        clear hres h1
        go_wp2_with fail
        refine HH.out.mono ?_
        rintro e w1 ⟨rfl, hb1⟩
        go_wp2_with fail
        go_ret3
        rw [← HR.out]
        exact UcDone.bad (HK.out.of_below hb1).below
      · rw [decide_eq_true (show pos + 1 ≤ B.length by omega)] at HH
        obtain ⟨x, hx⟩ : ∃ x, B.getD pos 0 = x := ⟨_, rfl⟩
        have hxl : x.toNat < 256 := x.toNat_lt
        have hxi : (x.toNat : Int) < 256 := by omega
        obtain ⟨p1, hp1⟩ : ∃ p, pos + 1 = p := ⟨_, rfl⟩
        have hp1i : (pos : Int) + 1 = (p1 : Int) := by omega
        have hpi : (pos : Int) < (B.length : Int) := by omega
        have HX := Lib.hid (And.intro h1 (And.intro hx (And.intro hxl hp1)))
        clear hx hxl hp1
        go_wp2_with fail
        refine HH.out.mono ?_
        rintro e w1 ⟨rfl, hb1⟩
        obtain ⟨b, off, hAA, hbb, hcs⟩ := HA.out.1.addr (show 0 < B.length by omega)
        have k0 := hcs pos (by omega)
        rw [← getD_of (d := B) (i := pos) (by omega), HX.out.2.1] at k0
        have hK1 := HK.out.of_below hb1
        have hkx : w1.cell? ⟨b, off + pos, none⟩ = some (.int .u8 (x.toNat : Nat)) := (hK1.below.cell (p := ⟨b, off + pos, none⟩) (show b < w.heap.size from HA.out.2.1 _ hAA)).trans k0
        obtain ⟨cv, hU1, hC1⟩ := hK1
        obtain ⟨v, ⟨_, r1, _, r3, r4, r5, r6, _, _, _, _⟩, hov, hfr, _⟩ := hU1.cells
        obtain ⟨AO, cO, rfl, hcO, hmO, hBO⟩ := hov.read
        have f1 := hfr 1
        have f4 := hfr 4
        have f5 := hfr 5
        have f6 := hfr 6
        have hst := hU1.nums.2.2.2.2
        have hK2 : Rk ⟨w.heap.size, w, R, A, B, c, dict⟩ (w1.setCell ⟨R, 1, none⟩ (.int .i64 (p1 : Nat))) p1 s := by
          obtain ⟨cs, hr⟩ := hU1.hR
          exact ⟨cv, hU1.put 1 _ (fun _ => rfl) rfl (by show p1 ≤ B.length; have := HX.out.2.2.2; omega) hst, hC1.set (p := ⟨R, 1, none⟩) hr _⟩
        obtain ⟨W2, hW2⟩ : ∃ W, w1.setCell ⟨R, 1, none⟩ (.int .i64 (p1 : Nat)) = W := ⟨_, rfl⟩
        rw [hW2] at hK2
        obtain ⟨cv2, hU2', _⟩ := id hK2
        obtain ⟨v2, ⟨_, d1, _, d3, d4, d5, d6, _, _, _, _⟩, hov2, _, _⟩ := hU2'.cells
        have hv2 : v2 = .slice AO s.out.length cO := by
          have e : W2.cell? ⟨R, 3, none⟩ = some (.slice AO s.out.length cO) := by rw [← hW2]; exact (World.cell?_setCell_other _ _ _ _ (by simp)).trans r3
          rw [d3] at e; injection e
        subst hv2
        have hBO : Bytes W2 AO s.out := by
          obtain ⟨A', c', e, _, _, hb'⟩ := hov2.read
          injection e with e1 e2 e3
          subst e1
          exact hb'
        have HK2 := Lib.hid hK2
        have HW2 := Lib.hid hW2
        clear hU1 hC1 hov hfr hst hK2 hW2 hU2' hov2 hcs k0 hb1 hbb r3 r4 r6
        subst hAA
        by_cases hx0 : x.toNat = 0
        · have hres : (s.out, p1, 0) = RES := by have h := HT.out.2.2; unfold unchunkAll at h; rw [if_neg HX.out.1, HX.out.2.1, if_pos hx0, HX.out.2.2.2] at h; exact h
          have HR := Lib.hid hres
          have hx0b : ((x.toNat : Int) == 0) = true := by rw [hx0]; rfl
          have hx0i : (x.toNat : Int) = 0 := by omega
          have HU := Lib.hid (And.intro hBO (And.intro hcO hmO))
          clear hres hBO hcO hmO hx0
          go_upto_region 6 with fail
          rw [HW2.out]
          go_wp2_with fail
          go_quiet (fail)
          go_wp2_with fail
          go_ret3
          rw [← HR.out]
          exact ⟨AO, cO, rfl, HU.out.2, HU.out.1, below_drewN HK2.out.below _⟩
        · have hx0b : ((x.toNat : Int) == 0) = false := beq_eq_false_iff_ne.2 (by omega)
          have hx0i : ¬ (x.toNat : Int) = 0 := by omega
          have hsh := HT.out.2.1
          have hun := HT.out.2.2
          unfold CkShort at hsh
          unfold unchunkAll at hun
          rw [if_neg HX.out.1, HX.out.2.1, if_neg hx0, HX.out.2.2.2] at hun
          have hsh2 := hsh.2 (by have := HX.out.1; omega) (by rw [HX.out.2.1]; exact hx0)
          rw [HX.out.2.1, HX.out.2.2.2] at hsh2
          have hxl := HX.out.2.2.1
          by_cases hcl : x.toNat = 1 ∨ 224 ≤ x.toNat
          · obtain ⟨s1, hs1⟩ : ∃ s1 : CkS, { s with start := s.out.length, clear := true, asked := true } = s1 := ⟨_, rfl⟩
            have hxr0 : unchunkC B dict x.toNat p1 s = unchunk1 B dict x.toNat p1 s1 := by unfold unchunkC unclear; rw [if_pos hcl, hs1]
            obtain ⟨cv2, hU2, _⟩ := HK2.out
            obtain ⟨v2, _, _, gfr, _⟩ := hU2.cells
            have g4 := gfr 4
            have g5 := gfr 5
            have g6 := gfr 6
            have u1 := hU2.put 4 (.int .i64 (s.out.length : Nat)) (pos' := p1) (s' := { s with start := s.out.length }) (cv' := cv2) (fun _ => rfl) rfl hU2.nums.2.2.2.1 (Nat.le_refl _)
            have u2 := u1.put 5 (.bool true) (pos' := p1) (s' := { s with start := s.out.length, clear := true }) (cv' := cv2) (fun _ => rfl) rfl hU2.nums.2.2.2.1 (Nat.le_refl _)
            have u3 := u2.put 6 (.bool true) (pos' := p1) (s' := { s with start := s.out.length, clear := true, asked := true }) (cv' := cv2) (fun _ => rfl) rfl hU2.nums.2.2.2.1 (Nat.le_refl _)
            rw [hs1] at u3
            have hs1a : s1.asked = true ∧ s1.clear = true ∧ s1.out = s.out := by rw [← hs1]; exact ⟨rfl, rfl, rfl⟩
            obtain ⟨w3, hw3⟩ : ∃ W, ((W2.setCell ⟨R, 4, none⟩ (.int .i64 (s.out.length : Nat))).setCell ⟨R, 5, none⟩ (.bool true)).setCell ⟨R, 6, none⟩ (.bool true) = W := ⟨_, rfl⟩
            have hk3 : Rk (⟨w.heap.size, w, R, some ⟨b, off, none⟩, B, c, dict⟩ : RkP) w3 p1 s1 := ⟨cv2, by rw [← hw3]; exact u3, fun _ h2 => by rw [hs1a.1] at h2; cases h2⟩
            obtain ⟨_, ⟨_, _, _, _, _, q5, q6, _, _, _, _⟩, _, _, _⟩ := (show RkB (⟨w.heap.size, w, R, some ⟨b, off, none⟩, B, c, dict⟩ : RkP) w3 p1 s1 cv2 by rw [← hw3]; exact u3).cells
            rw [hs1a.2.1] at q5
            rw [hs1a.1] at q6
            have hoi : (s.out.length : Int) ≤ 400000000 := by have := hsh.1; omega
            have hlen1 : s1.out.length ≤ 400000000 := by rw [hs1a.2.2]; exact hsh.1
            have HW3 := Lib.hid hw3
            have hclr := hs1a.2.1
            by_cases hx1 : x.toNat = 1
            · have hxr : unchunkC B dict x.toNat p1 s = unstore B p1 s1 := hxr0.trans (by unfold unchunk1; rw [if_neg (ck_ok hclr (by omega)), if_pos (by omega)])
              have hch : Calls Try.prog 13 #[PF R] w3 (RkDone (⟨w.heap.size, w, R, some ⟨b, off, none⟩, B, c, dict⟩ : RkP) (unstore B p1 s1)) := urstored_any hk3 hlen1
              have i1 : (x.toNat : Int) = 1 := by omega
              clear hxr0 hs1 hU2 gfr u1 u2 u3 hs1a hw3 hk3 hlen1 hclr hcl hxl hBO hcO hmO hx1
              rw [← hxr] at hch
              cases hck : unchunkC B dict x.toNat p1 s with
              | bad n =>
                rw [hck] at hun hch
                have hn := unchunk_bad hck
                have hni : ¬ (n : Int) = 0 := by omega
                have hnb : ((n : Int) == 0) = false := beq_eq_false_iff_ne.2 hni
                have hnb2 : ((n : Int) != 0) = true := by rw [bne_iff_ne]; exact hni
                have HR : Hid (([], 0, n) = RES) := Lib.hid hun
                have HCH := Lib.hid hch
                clear hun hch hsh hsh2 hck hn hx0 hxr
                go_upto_region 6 with fail
                rw [HW2.out]
                go_upto_region 12 with fail
                rw [HW3.out]
                go_wp2_with fail
                refine HCH.out.mono ?_
                rintro e w9 ⟨rfl, hb9⟩
                have HB9 := Lib.hid hb9
                clear hb9
                go_wp2_with fail
                go_ret3
                rw [← HR.out]
                exact UcDone.bad HB9.out
              | go p t =>
                rw [hck] at hun hch hsh2
                have hp := unchunk_go hck
                have HCH := Lib.hid hch
                have HT2 : Hid (B.length < p + gk ∧ CkShort B dict gk p t ∧ unchunkAll B dict gk p t = RES) := Lib.hid ⟨by have := HT.out.1; have := HX.out.2.2.2; omega, hsh2, hun⟩
                clear hun hch hsh hsh2 hck hp hx0 hxr
                go_upto_region 6 with fail
                rw [HW2.out]
                go_upto_region 12 with fail
                rw [HW3.out]
                go_wp2_with fail
                refine HCH.out.mono ?_
                rintro e w9 ⟨rfl, hk9⟩
                have HK9 := Lib.hid hk9
                clear hk9
                go_wp2_with fail
                go_roundg gk
                case measure => omega
                case rel => exact ⟨p, t, HK9, HT2⟩
            · have hx224 : 224 ≤ x.toNat := by omega
              have hxr : unchunkC B dict x.toNat p1 s = unpackC B dict x.toNat p1 s1 := hxr0.trans (by unfold unchunk1; rw [if_neg (ck_ok hclr (by omega)), if_neg (by omega), if_neg (by omega)])
              have hch : Calls Try.prog 14 #[PF R, .int .i64 (x.toNat : Nat)] w3 (RkDone (⟨w.heap.size, w, R, some ⟨b, off, none⟩, B, c, dict⟩ : RkP) (unpackC B dict x.toNat p1 s1)) := urunpack_any hk3 x.toNat (by omega) hxl hclr (by omega) hlen1 HD.out.1 HD.out.2
              have i1 : ¬ (x.toNat : Int) = 1 := by omega
              have i1b : ((x.toNat : Int) == 1) = false := beq_eq_false_iff_ne.2 i1
              have i2 : (224 : Int) ≤ (x.toNat : Int) := by omega
              clear hxr0 hs1 hU2 gfr u1 u2 u3 hs1a hw3 hk3 hlen1 hclr hcl hxl hBO hcO hmO hx1 hx224
              rw [← hxr] at hch
              cases hck : unchunkC B dict x.toNat p1 s with
              | bad n =>
                rw [hck] at hun hch
                have hn := unchunk_bad hck
                have hni : ¬ (n : Int) = 0 := by omega
                have hnb : ((n : Int) == 0) = false := beq_eq_false_iff_ne.2 hni
                have hnb2 : ((n : Int) != 0) = true := by rw [bne_iff_ne]; exact hni
                have HR : Hid (([], 0, n) = RES) := Lib.hid hun
                have HCH := Lib.hid hch
                clear hun hch hsh hsh2 hck hn hx0 hxr
                go_upto_region 6 with fail
                rw [HW2.out]
                go_upto_region 12 with fail
                rw [HW3.out]
                go_wp2_with fail
                refine HCH.out.mono ?_
                rintro e w9 ⟨rfl, hb9⟩
                have HB9 := Lib.hid hb9
                clear hb9
                go_wp2_with fail
                go_ret3
                rw [← HR.out]
                exact UcDone.bad HB9.out
              | go p t =>
                rw [hck] at hun hch hsh2
                have hp := unchunk_go hck
                have HCH := Lib.hid hch
                have HT2 : Hid (B.length < p + gk ∧ CkShort B dict gk p t ∧ unchunkAll B dict gk p t = RES) := Lib.hid ⟨by have := HT.out.1; have := HX.out.2.2.2; omega, hsh2, hun⟩
                clear hun hch hsh hsh2 hck hp hx0 hxr
                go_upto_region 6 with fail
                rw [HW2.out]
                go_upto_region 12 with fail
                rw [HW3.out]
                go_wp2_with fail
                refine HCH.out.mono ?_
                rintro e w9 ⟨rfl, hk9⟩
                have HK9 := Lib.hid hk9
                clear hk9
                go_wp2_with fail
                go_roundg gk
                case measure => omega
                case rel => exact ⟨p, t, HK9, HT2⟩
          · have hxr0 : unchunkC B dict x.toNat p1 s = unchunk1 B dict x.toNat p1 s := by unfold unchunkC unclear; rw [if_neg hcl]
            have i1 : ¬ (x.toNat : Int) = 1 := by omega
            have i1b : ((x.toNat : Int) == 1) = false := beq_eq_false_iff_ne.2 i1
            have i2 : (x.toNat : Int) < 224 := by omega
            cases hq : s.clear with
            | false =>
              have hxr : unchunkC B dict x.toNat p1 s = .bad 6 := hxr0.trans (by unfold unchunk1; rw [if_pos (.inl hq)])
              rw [hq] at d5 r5
              clear hxr0 hcl hxl hBO hcO hmO hq
              have hres : ([], 0, 6) = RES := by have h := hun; rw [hxr] at h; exact h
              have HR := Lib.hid hres
              clear hun hsh hsh2 hxr hx0 hres
              go_upto_region 6 with fail
              rw [HW2.out]
              go_wp2_with fail
              go_ret3
              rw [← HR.out]
              exact UcDone.bad HK2.out.below
            | true =>
              rw [hq] at d5 r5
              by_cases hmid : 2 < x.toNat ∧ x.toNat < 128
              · have hxr : unchunkC B dict x.toNat p1 s = .bad 6 := hxr0.trans (by unfold unchunk1; rw [if_pos (.inr hmid)])
                have i3 : (2 : Int) < (x.toNat : Int) := by omega
                have i4 : (x.toNat : Int) < 128 := by omega
                clear hxr0 hcl hxl hBO hcO hmO hq hmid
                have hres : ([], 0, 6) = RES := by have h := hun; rw [hxr] at h; exact h
                have HR := Lib.hid hres
                clear hun hsh hsh2 hxr hx0 hres
                go_upto_region 6 with fail
                rw [HW2.out]
                go_wp2_with fail
                go_ret3
                rw [← HR.out]
                exact UcDone.bad HK2.out.below
              · by_cases hst2 : x.toNat ≤ 2
                · have hxr : unchunkC B dict x.toNat p1 s = unstore B p1 s := hxr0.trans (by unfold unchunk1; rw [if_neg (ck_ok hq hmid), if_pos hst2])
                  have hch : Calls Try.prog 13 #[PF R] W2 (RkDone (⟨w.heap.size, w, R, some ⟨b, off, none⟩, B, c, dict⟩ : RkP) (unstore B p1 s)) := urstored_any HK2.out hsh.1
                  have i3 : (x.toNat : Int) = 2 := by omega
                  clear hxr0 hcl hxl hBO hcO hmO hq hmid hst2 i1 i1b i2
                  rw [← hxr] at hch
                  cases hck : unchunkC B dict x.toNat p1 s with
                  | bad n =>
                    rw [hck] at hun hch
                    have hn := unchunk_bad hck
                    have hni : ¬ (n : Int) = 0 := by omega
                    have hnb : ((n : Int) == 0) = false := beq_eq_false_iff_ne.2 hni
                    have hnb2 : ((n : Int) != 0) = true := by rw [bne_iff_ne]; exact hni
                    have HR : Hid (([], 0, n) = RES) := Lib.hid hun
                    have HCH := Lib.hid hch
                    clear hun hch hsh hsh2 hck hn hx0 hxr
                    go_upto_region 6 with fail
                    rw [HW2.out]
                    go_wp2_with fail
                    refine HCH.out.mono ?_
                    rintro e w9 ⟨rfl, hb9⟩
                    have HB9 := Lib.hid hb9
                    clear hb9
                    go_wp2_with fail
                    go_ret3
                    rw [← HR.out]
                    exact UcDone.bad HB9.out
                  | go p t =>
                    rw [hck] at hun hch hsh2
                    have hp := unchunk_go hck
                    have HCH := Lib.hid hch
                    have HT2 : Hid (B.length < p + gk ∧ CkShort B dict gk p t ∧ unchunkAll B dict gk p t = RES) := Lib.hid ⟨by have := HT.out.1; have := HX.out.2.2.2; omega, hsh2, hun⟩
                    clear hun hch hsh hsh2 hck hp hx0 hxr
                    go_upto_region 6 with fail
                    rw [HW2.out]
                    go_wp2_with fail
                    refine HCH.out.mono ?_
                    rintro e w9 ⟨rfl, hk9⟩
                    have HK9 := Lib.hid hk9
                    clear hk9
                    go_wp2_with fail
                    go_roundg gk
                    case measure => omega
                    case rel => exact ⟨p, t, HK9, HT2⟩
                · have i3 : (128 : Int) ≤ (x.toNat : Int) := by omega
                  have i3b : (2 : Int) < (x.toNat : Int) := by omega
                  by_cases hask : x.toNat < 192 ∧ s.asked = true
                  · have hxr : unchunkC B dict x.toNat p1 s = .bad 6 := hxr0.trans (by unfold unchunk1; rw [if_neg (ck_ok hq hmid), if_neg hst2, if_pos hask])
                    have hch : Calls Try.prog 14 #[PF R, .int .i64 (x.toNat : Nat)] W2 (RkDone (⟨w.heap.size, w, R, some ⟨b, off, none⟩, B, c, dict⟩ : RkP) (.bad 6)) := urunpack_asked HK2.out x.toNat hask.1 hask.2
                    clear hxr0 hcl hxl hBO hcO hmO hq hmid hst2 hask
                    rw [← hxr] at hch
                    cases hck : unchunkC B dict x.toNat p1 s with
                    | bad n =>
                      rw [hck] at hun hch
                      have hn := unchunk_bad hck
                      have hni : ¬ (n : Int) = 0 := by omega
                      have hnb : ((n : Int) == 0) = false := beq_eq_false_iff_ne.2 hni
                      have hnb2 : ((n : Int) != 0) = true := by rw [bne_iff_ne]; exact hni
                      have HR : Hid (([], 0, n) = RES) := Lib.hid hun
                      have HCH := Lib.hid hch
                      clear hun hch hsh hsh2 hck hn hx0 hxr
                      go_upto_region 6 with fail
                      rw [HW2.out]
                      go_wp2_with fail
                      refine HCH.out.mono ?_
                      rintro e w9 ⟨rfl, hb9⟩
                      have HB9 := Lib.hid hb9
                      clear hb9
                      go_wp2_with fail
                      go_ret3
                      rw [← HR.out]
                      exact UcDone.bad HB9.out
                    | go p t =>
                      rw [hck] at hun hch hsh2
                      have hp := unchunk_go hck
                      have HCH := Lib.hid hch
                      have HT2 : Hid (B.length < p + gk ∧ CkShort B dict gk p t ∧ unchunkAll B dict gk p t = RES) := Lib.hid ⟨by have := HT.out.1; have := HX.out.2.2.2; omega, hsh2, hun⟩
                      clear hun hch hsh hsh2 hck hp hx0 hxr
                      go_upto_region 6 with fail
                      rw [HW2.out]
                      go_wp2_with fail
                      refine HCH.out.mono ?_
                      rintro e w9 ⟨rfl, hk9⟩
                      have HK9 := Lib.hid hk9
                      clear hk9
                      go_wp2_with fail
                      go_roundg gk
                      case measure => omega
                      case rel => exact ⟨p, t, HK9, HT2⟩
                  · have hxr : unchunkC B dict x.toNat p1 s = unpackC B dict x.toNat p1 s := hxr0.trans (by unfold unchunk1; rw [if_neg (ck_ok hq hmid), if_neg hst2, if_neg hask])
                    have hch : Calls Try.prog 14 #[PF R, .int .i64 (x.toNat : Nat)] W2 (RkDone (⟨w.heap.size, w, R, some ⟨b, off, none⟩, B, c, dict⟩ : RkP) (unpackC B dict x.toNat p1 s)) := urunpack_any HK2.out x.toNat (by omega) hxl hq hask hsh.1 HD.out.1 HD.out.2
                    clear hxr0 hcl hxl hBO hcO hmO hq hmid hst2 hask
                    rw [← hxr] at hch
                    cases hck : unchunkC B dict x.toNat p1 s with
                    | bad n =>
                      rw [hck] at hun hch
                      have hn := unchunk_bad hck
                      have hni : ¬ (n : Int) = 0 := by omega
                      have hnb : ((n : Int) == 0) = false := beq_eq_false_iff_ne.2 hni
                      have hnb2 : ((n : Int) != 0) = true := by rw [bne_iff_ne]; exact hni
                      have HR : Hid (([], 0, n) = RES) := Lib.hid hun
                      have HCH := Lib.hid hch
                      clear hun hch hsh hsh2 hck hn hx0 hxr
                      go_upto_region 6 with fail
                      rw [HW2.out]
                      go_wp2_with fail
                      refine HCH.out.mono ?_
                      rintro e w9 ⟨rfl, hb9⟩
                      have HB9 := Lib.hid hb9
                      clear hb9
                      go_wp2_with fail
                      go_ret3
                      rw [← HR.out]
                      exact UcDone.bad HB9.out
                    | go p t =>
                      rw [hck] at hun hch hsh2
                      have hp := unchunk_go hck
                      have HCH := Lib.hid hch
                      have HT2 : Hid (B.length < p + gk ∧ CkShort B dict gk p t ∧ unchunkAll B dict gk p t = RES) := Lib.hid ⟨by have := HT.out.1; have := HX.out.2.2.2; omega, hsh2, hun⟩
                      clear hun hch hsh hsh2 hck hp hx0 hxr
                      go_upto_region 6 with fail
                      rw [HW2.out]
                      go_wp2_with fail
                      refine HCH.out.mono ?_
                      rintro e w9 ⟨rfl, hk9⟩
                      have HK9 := Lib.hid hk9
                      clear hk9
                      go_wp2_with fail
                      go_roundg gk
                      case measure => omega
                      case rel => exact ⟨p, t, HK9, HT2⟩
end Go.Proofs.Ytkckjjchfccdjaa
