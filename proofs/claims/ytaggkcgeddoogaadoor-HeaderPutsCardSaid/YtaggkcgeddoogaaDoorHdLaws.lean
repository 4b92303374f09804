/- The contract of the law HeaderGets; knows. -/
import Derived.Test.YtaggkcgeddoogaaDoorHdMath
import Derived.Test.YtaggkcgeddoogaaDoorHdPut
namespace Go.Proofs.YtaggkcgeddoogaaDoor
open Go.RowKit

def headE : HeadM := ⟨-1, -1, [], 4096⟩
theorem headE_ok : headE.ok ∧ (∀ f ∈ headE.l, f.ok) ∧ validB headE = true ∧ (putH headE).length = 12 := by
  have h1 : headE.ok := ⟨by show (-9223372036854775808 : Int) ≤ -1; omega, by show (-1 : Int) ≤ 9223372036854775807; omega, by show (-9223372036854775808 : Int) ≤ -1; omega, by show (-1 : Int) ≤ 9223372036854775807; omega, by show 4096 < 4294967296; omega⟩
  have h2 : ∀ f ∈ headE.l, f.ok := by intro f hf; cases hf
  have h3 : validB headE = true := by decide +kernel
  refine ⟨h1, h2, h3, ?_⟩
  rw [(putH_length headE h1 h2 h3).1, show (padB (openB headE)).length = 8 by decide +kernel]
set_option maxRecDepth 100000 in
set_option maxHeartbeats 2000000 in
theorem hdknows_any (w : World) : Calls Tryd.prog 5 #[] w (Holds w) := by
  obtain ⟨h1, h2, h3, h4⟩ := headE_ok
  have HP := Lib.hid (show Calls Tryd.prog 6 #[.agg #[.int .i64 (-1), .int .i64 (-1), .slice none 0 0, .int .u32 4096]] w (HdPutDone w headE) from hdput_any headE h1 none 0 w (.inl rfl) h2 (by show 0 ≤ 20; omega))
  go_enter Tryd.func5, Tryd.ntmps5
  go_wp2_with fail
  refine HP.out.mono ?_
  rintro e w1 (⟨_, v, rfl, ho, hb1⟩ | ⟨h, _⟩)
  case inr => rw [h3] at h; cases h
  obtain ⟨A, c, rfl, hc, hm, hB⟩ := ho.read
  have HG := Lib.hid (hdget_any A (putH headE) c w1 hB hc hm (by rw [h4]; omega))
  have hgp := getHd_put headE [] h1 h2 h3
  rw [List.append_nil, h4] at hgp
  rw [hgp, h4] at HG
  rw [h4]
  clear HP ho hc hB h1 h2 h3 h4 hgp
  go_wp2_with fail
  refine HG.out.mono ?_
  rintro e w2 ⟨A2, c2, rfl, _, _, _, hb2⟩
  have h02 : Below w.heap.size w w2 := hb1.trans (hb2.mono hb1.size)
  have H02 := Lib.hid h02
  simp only [headV, headE]
  have HG2 := Lib.hid (fun (wx : World) => hdget_any none [] 0 wx .nil (by simp) (by omega) (by simp))
  have hnil : getHd [] = (zeroH, 0, 2) := rfl
  rw [hnil] at HG2
  clear HG hb1 hb2 h02 hnil
  go_wp2_with fail
  refine (HG2.out _).mono ?_
  rintro e w3 ⟨A3, c3, rfl, _, _, _, hb3⟩
  have hbA : Below w.heap.size w (w2.alloc (.cells #[.int .i64 (-1), .int .i64 (-1), .slice A2 0 c2, .int .u32 4096] 25)) := H02.out.alloc H02.out.size _
  have H03 := Lib.hid (hbA.trans (hb3.mono hbA.size))
  have hblk : w3.heap[w2.heap.size]? = some (.cells #[.int .i64 (-1), .int .i64 (-1), .slice A2 0 c2, .int .u32 4096] 25 (0, 0)) := (hb3.block _ (by simp)).trans (heap_alloc_last _ _)
  have hblk2 : Blk4 w2.heap.size w3 (.int .i64 (-1)) (.int .i64 (-1)) (.slice A2 0 c2) (.int .u32 4096) := hblk
  simp only [headV, zeroH]
  have HK2 := Lib.hid (show ∀ o, Blk4 w2.heap.size (w3.alloc o) (.int .i64 (-1)) (.int .i64 (-1)) (.slice A2 0 c2) (.int .u32 4096) from fun o => (Below.heap_alloc _ _ _ (Array.getElem?_eq_some_iff.1 hblk).1).trans hblk2)
  obtain ⟨y0, y1, y2, y3⟩ := (HK2.out (.cells #[.int .i64 0, .int .i64 0, .slice A3 0 c3, .int .u32 0] 25)).cells
  clear hbA hb3 hblk hblk2
  go_wp2_with fail
  go_ret
  exact ⟨rfl, H03.out.alloc H03.out.size _⟩

theorem Own.cutTo {base g n c k : Nat} {w : World} {l : List UInt8} (h : Own base w (.slice (some ⟨g, 0, none⟩) n c) l) (hk : k ≤ l.length) : Own base w (.slice (some ⟨g, 0, none⟩) k c) (l.take k) := by
  rcases h with ⟨h1, ⟨h2, _⟩ | ⟨g1, cap, cur, h2, h3, h4, h5, h6, h7, h8⟩⟩
  · cases h2
  · injection h2 with e1 e2 e3
    injection e1 with e1
    injection e1 with e1
    subst e1; subst e3
    have hl : (l.take k).length = k := by rw [List.length_take]; omega
    refine ⟨by simp, .inr ⟨g, c, cur, by rw [hl], h3, h4, by omega, h6, h7, ?_⟩⟩
    simp only [Nat.mul_one, List.map_take, hl] at h8 ⊢
    rw [← h8, List.take_take]
    congr 1; omega

theorem filsM_len (many : Nat) : ∀ (k i : Nat) (l : List UInt8) (acc : List Fil), acc.length + k ≤ 300 → (filsM many k i l acc).1.length ≤ 300
  | 0, i, l, acc, h => by show acc.length ≤ 300; omega
  | k + 1, i, l, acc, h => by
    rw [filsM_more]
    split
    · simp
    · split
      · simp
      · exact filsM_len many k _ _ _ (by simp; omega)
theorem getHd_len (l : List UInt8) : (getHd l).1.l.length ≤ 300 := by
  have h0 : zeroH.l.length ≤ 300 := by simp [zeroH]
  have h1 : (partsM (l.getD 1 0).toNat ((sealM l).1.drop 2)).1.l.length ≤ 300 := by
    rw [partsM_of]
    split
    · exact h0
    · split
      · exact h0
      · split
        · exact h0
        · have hx := (l.getD 1 0).toNat_lt
          show (List.take _ _).length ≤ 300
          rw [List.length_take]
          have := filsM_len ((l.getD 1 0).toNat % 4) ((l.getD 1 0).toNat % 4 + 1) 0 (by assumption) [] (by simp; omega)
          omega
  unfold getHd
  split
  · exact h0
  · split
    · exact h0
    · split
      · exact h0
      · exact h1

set_option maxRecDepth 100000 in
set_option maxHeartbeats 2000000 in
theorem gets_law (A : Option Addr) (l : List UInt8) (c : Nat) (r : Bool) (w : World) (hB : Bytes w A l) (_hc : l.length ≤ c) (_hm : c ≤ 9223372036854775807) :
    Calls Tryd.prog 4 #[.slice A l.length c, .bool r] w (Holds w) := by
  by_cases h6 : 1100 < l.length
  · have h6i : (1100 : Int) < (l.length : Int) := by omega
    generalize l.length = L at *
    go_enter Tryd.func4, Tryd.ntmps4
    go_wp2_with fail
    refine (hdknows_any _).mono ?_
    rintro e w' ⟨rfl, hb⟩
    go_wp2_with fail
    go_ret
    exact ⟨rfl, hb⟩
  have h6i : ¬ (1100 : Int) < (l.length : Int) := by omega
  have hoE : Own w.heap.size (w.alloc (.cells #[] 5)) (.slice (some ⟨w.heap.size, 0, none⟩) 0 0) [] := Own.lit w [] (Nat.le_refl _) (by simp)
  have hbE : Below w.heap.size w (w.alloc (.cells #[] 5)) := (Below.refl _ _).alloc (Nat.le_refl _) _
  have hBt := hB.below hbE
  have hszE := hbE.size
  have hs1 : ([] : List UInt8).length + l.length ≤ 140737488355328 := by simp; omega
  have HBE := Lib.hid hbE
  clear hbE hB
  go_enter Tryd.func4, Tryd.ntmps4
  go_upto_region 4 with (at_builtin; refine wpList_append_bytes rfl (.tmp 16) (.tmp 17) rfl w.heap.size _ _ [] rfl hoE A l c rfl hBt hs1 hszE ?_; intro v3 w3 ho3 hg3)
  rw [List.nil_append] at ho3
  have hb3 : Below w.heap.size w w3 := below_grown HBE.out hg3 HBE.out.size (fun g e => (hoE.from_base g e).1)
  have HO3 := Lib.hid ho3
  have HB3 := Lib.hid hb3
  clear hoE hBt hszE hs1 ho3 hg3 hb3
  go_upto_if 19 with fail
  go_cut [5] from 12 (fun s5 wx => ∃ m, Own w.heap.size wx s5 m ∧ m.length ≤ 2000 ∧ Below w.heap.size w wx)
  case first =>
    cases r with
    | false =>
      go_wp2_with fail
      go_meet
      exact ⟨l, HO3.out, by omega, HB3.out⟩
    | true =>
      obtain ⟨T, hT4, hT, hlT, hTb⟩ : ∃ T, T % 4 = 0 ∧ 4 ≤ T ∧ l.length ≤ T ∧ T ≤ 1104 := ⟨4 * ((l.length + 3) / 4) + (if l.length = 0 then 4 else 0), by split <;> omega, by split <;> omega, by split <;> omega, by split <;> omega⟩
      go_wp2_with fail
      go_loopw [5] (fun s5 wr => ∃ m : List UInt8, Hid (Own w.heap.size wr s5 m) ∧ m.length ≤ T ∧ Hid (Below w.heap.size w wr)) (fun s5 _ => T - lenV s5)
      case atStart => exact ⟨l, HO3, hlT, HB3⟩
      case round =>
        obtain ⟨m, HOM, hmT, HBR⟩ := hrel
        obtain ⟨Am, cm, rfl, hcm, hmm, _⟩ := HOM.out.read
        by_cases hcond : m.length % 4 ≠ 0 ∨ m.length < 4
        · have hoA := HOM.out.alloc (.cells #[.int .u8 0] 5)
          have hBA : Bytes (wr.alloc (.cells #[.int .u8 0] 5)) (some ⟨wr.heap.size, 0, none⟩) [0] := Bytes.one wr 0
          have hsA : w.heap.size ≤ (wr.alloc (.cells #[.int .u8 0] 5)).heap.size := by have := HBR.out.size; simp; omega
          have HBA := Lib.hid (HBR.out.alloc HBR.out.size (.cells #[.int .u8 0] 5))
          have hs4 : m.length + ([0] : List UInt8).length ≤ 140737488355328 := by simp; omega
          by_cases hm4 : m.length % 4 = 0
          · have hml : (m.length : Int) < 4 := by omega
            have hm4i : ((m.length : Int) % 4 == 0) = true := by simp; omega
            go_wp2_with (at_builtin; refine wpList_append_bytes rfl (.tmp 29) (.tmp 30) rfl w.heap.size _ _ m rfl hoA (some ⟨wr.heap.size, 0, none⟩) [0] 1 rfl hBA hs4 hsA ?_; intro v5 w5 ho5 hg5)
            have hb5 : Below w.heap.size w w5 := below_grown HBA.out hg5 hsA (fun g e => (hoA.from_base g e).1)
            have hlv : lenV v5 = m.length + 1 := by obtain ⟨A5, c5, rfl, _, _, _⟩ := ho5.read; simp [lenV]
            exact ⟨⟨m ++ [0], Lib.hid ho5, by simp; omega, Lib.hid hb5⟩, by show T - lenV v5 < T - m.length; rw [hlv]; omega⟩
          · have hm4i : ((m.length : Int) % 4 == 0) = false := by simp; omega
            go_wp2_with (at_builtin; refine wpList_append_bytes rfl (.tmp 29) (.tmp 30) rfl w.heap.size _ _ m rfl hoA (some ⟨wr.heap.size, 0, none⟩) [0] 1 rfl hBA hs4 hsA ?_; intro v5 w5 ho5 hg5)
            have hb5 : Below w.heap.size w w5 := below_grown HBA.out hg5 hsA (fun g e => (hoA.from_base g e).1)
            have hlv : lenV v5 = m.length + 1 := by obtain ⟨A5, c5, rfl, _, _, _⟩ := ho5.read; simp [lenV]
            exact ⟨⟨m ++ [0], Lib.hid ho5, by simp; omega, Lib.hid hb5⟩, by show T - lenV v5 < T - m.length; rw [hlv]; omega⟩
        · have hm4 : m.length % 4 = 0 := by omega
          have hml : 4 ≤ m.length := by omega
          have hm4i : ((m.length : Int) % 4 == 0) = true := by simp; omega
          have hmli : ¬ (m.length : Int) < 4 := by omega
          obtain ⟨g, cg, ec, hgb, hgl, hg3, hg4, hg5, hg6⟩ := HOM.out.opened (by omega)
          injection ec with e1 e2 e3
          subst e1; subst e3
          have HO := HOM
          clear hg5 hg6 HOM hcond
          go_upto_if 34 with fail
          go_cut [5] (fun s5 wx => ∃ (m' : List UInt8) (g cg : Nat), s5 = .slice (some ⟨g, 0, none⟩) m'.length cg ∧ Own w.heap.size wx (.slice (some ⟨g, 0, none⟩) m'.length cg) m' ∧ 4 ≤ m'.length ∧ m'.length ≤ 1020 ∧ m'.length % 4 = 0 ∧ Below w.heap.size w wx)
          case first =>
            by_cases h10 : 1020 < m.length
            · have h10i : (1020 : Int) < (m.length : Int) := by omega
              have hcgi : (m.length : Int) ≤ (cm : Int) := by omega
              have hl10 : (m.take 1020).length = 1020 := by rw [List.length_take]; omega
              have hcut := Lib.hid (HO.out.cutTo (k := 1020) (by omega))
              clear hmT hcm hg3
              go_wp2_with fail
              go_meet
              exact ⟨m.take 1020, g, cm, by rw [hl10], by rw [hl10]; exact hcut.out, by omega, by omega, by omega, HBR.out⟩
            · have h10i : ¬ (1020 : Int) < (m.length : Int) := by omega
              go_wp2_with fail
              go_meet
              exact ⟨m, g, cm, rfl, HO.out, hml, by omega, hm4, HBR.out⟩
          case rest =>
          obtain ⟨m', g', cg, rfl, ho', hl4, hl10, hlm4, hb'⟩ := hcut
          obtain ⟨g2, c2, ec, hgb2, hgl2, hg32, hg42, hg52, hg62⟩ := ho'.opened (by omega)
          injection ec with e1 e2 e3
          injection e1 with e1; injection e1 with e1
          subst e1; subst e3
          have y0 := hg52 0 (by simp; omega)
          have yf := hg62 0
          have hst := Lib.hid (ho'.store 0 (by omega) (UInt8.ofNat (m'.length / 4)))
          have hli4 : (4 : Int) ≤ (m'.length : Int) := by omega
          have hli10 : (m'.length : Int) ≤ 1020 := by omega
          clear hg52 hg62
          go_upto_region 10 with fail
          have hw4 : ∃ (w4 : World) (m4 : List UInt8), wc.setCell ⟨g', 0, none⟩ (.int .u8 ((m'.length : Int) / 4)) = w4 ∧ m4.length = m'.length ∧ Own w.heap.size w4 (.slice (some ⟨g', 0, none⟩) m'.length cg) m4 ∧ Below w.heap.size w w4 := by
            have e : (((UInt8.ofNat (m'.length / 4)).toNat : Nat) : Int) = (m'.length : Int) / 4 := by rw [ofNat_small _ (by omega)]; omega
            have h := hst.out
            rw [e] at h
            exact ⟨_, _, rfl, by simp, h, Below.setCell (p := ⟨g', 0, none⟩) hb' hgb2 _⟩
          obtain ⟨w4, m4, hw4, hm4l, ho4, hb4⟩ := hw4
          rw [hw4]
          clear hst hw4 y0 yf ho' hb'
          generalize hM : m'.length = M at *
          have HP := Lib.hid (show Calls Tryd.prog 10 #[.agg #[.int .i64 (-1), .int .i64 (-1), .slice none 0 0, .int .u32 4096]] w4 (OwnDone w4 (putH headE)) from rhput_any headE headE_ok.1 headE_ok.2.1 headE_ok.2.2.1 none 0 w4 (.inl rfl))
          have HO4 := Lib.hid ho4
          have HB4 := Lib.hid hb4
          clear ho4 hb4
          go_wp2_with fail
          refine HP.out.mono ?_
          rintro e w5 h5
          obtain ⟨A5, c5, rfl, hc5, hm5, hB5, hb5⟩ := h5.bytes
          have hb05 := HB4.out.trans (hb5.mono HB4.out.size)
          have ho5 := HO4.out.below hb5
          have hs2 : m4.length + (putH headE).length ≤ 140737488355328 := by rw [headE_ok.2.2.2]; omega
          have HPL := Lib.hid headE_ok.2.2.2
          have hsz5 := hb05.size
          rw [HPL.out]
          clear hb5 h5
          go_upto_region 11 with (at_builtin; refine wpList_append_bytes rfl (.tmp 43) (.tmp 45) rfl w.heap.size _ _ m4 rfl ho5 A5 (putH headE) c5 (by rw [HPL.out]; rfl) hB5 hs2 hsz5 ?_; intro v6 w6 ho6 hg6; obtain ⟨A6, c6, rfl, hc6, hm6, hB6⟩ := ho6.read)
          have hb06 : Below w.heap.size w w6 := below_grown hb05 hg6 hb05.size (fun g e => (ho5.from_base g e).1)
          have hl6 : (m4 ++ putH headE).length = M + 12 := by rw [List.length_append, HPL.out, hm4l]
          have HS := Lib.hid (rsealed_any A6 (m4 ++ putH headE) c6 M w6 hB6 (by omega) hc6 hm6 (by omega))
          have HL6 := Lib.hid hl6
          rw [hl6] at HS
          rw [HPL.out]
          have HB6 := Lib.hid hb06
          clear ho5 hB5 hc5 hm5 hg6 hb06 hb05 hsz5 hs2 ho6 hB6 hc6 hm6 HP
          go_wp2_with fail
          refine HS.out.mono ?_
          rintro e w7 ⟨v7, rfl, ho7, hb7⟩
          have hle : w.heap.size ≤ w6.heap.size := HB6.out.size
          go_wp2_with fail
          go_meet
          exact ⟨_, ho7.weaken hle, by have := HPL.out; simp only [List.length_append, List.length_take, List.length_drop, sum1_length]; omega, HB6.out.trans (hb7.mono hle)⟩
  case rest =>
  obtain ⟨m, ho, hm2, hb⟩ := hcut
  obtain ⟨Am, cm, rfl, hcm, hmm, hBm⟩ := ho.read
  have HG := Lib.hid (hdget_any Am m cm wc hBm hcm hmm (by omega))
  have HR := Lib.hid (fun (wx : World) (h : Below wc.heap.size wc wx) => rhdget_any Am m cm wx (hBm.below h) hcm hmm (by omega))
  have HB0 := Lib.hid hb
  clear HO3 HB3 ho hBm hb
  have hl20 := getHd_len m
  generalize getHd m = R at *
  obtain ⟨⟨rp, rq, rl, rd⟩, n, er⟩ := R
  simp only at hl20
  go_wp2_with fail
  refine HG.out.mono ?_
  rintro e w1 ⟨A1, c1, rfl, hf1, hc1, hm1, hb1⟩
  simp only at hf1 hc1
  simp only [headV]
  have hbA := hb1.alloc hb1.size (.cells #[.int .i64 rp, .int .i64 rq, .slice A1 rl.length c1, .int .u32 (rd : Nat)] 25)
  have hk1 : Blk4 w1.heap.size (w1.alloc (.cells #[.int .i64 rp, .int .i64 rq, .slice A1 rl.length c1, .int .u32 (rd : Nat)] 25)) (.int .i64 rp) (.int .i64 rq) (.slice A1 rl.length c1) (.int .u32 (rd : Nat)) := heap_alloc_last _ _
  have hf1A := hf1.below ((Below.refl w1.heap.size w1).alloc (Nat.le_refl _) (.cells #[.int .i64 rp, .int .i64 rq, .slice A1 rl.length c1, .int .u32 (rd : Nat)] 25))
  have hlt1 : w1.heap.size < (w1.alloc (.cells #[.int .i64 rp, .int .i64 rq, .slice A1 rl.length c1, .int .u32 (rd : Nat)] 25)).heap.size := by simp
  have HF1 := Lib.hid (And.intro hf1A (And.intro hc1 (And.intro hbA (And.intro hk1 hlt1))))
  clear hf1 hc1 hm1 hb1 HG hbA hk1 hf1A hlt1
  go_wp2_with fail
  refine (HR.out _ HF1.out.2.2.1).mono ?_
  rintro e w2 ⟨A2, c2, rfl, hf2, hc2, hm2, hb2⟩
  simp only at hf2 hc2
  simp only [headV]
  obtain ⟨hf1, hc1, hbA, hk1, hlt1⟩ := HF1.out
  have hf1' := hf1.below hb2
  have hk1' : Blk4 w1.heap.size w2 (.int .i64 rp) (.int .i64 rq) (.slice A1 rl.length c1) (.int .u32 (rd : Nat)) := (hb2.block _ hlt1).trans hk1
  have hb02 : Below w.heap.size w w2 := HB0.out.trans ((hbA.trans (hb2.mono hbA.size)).mono HB0.out.size)
  obtain ⟨w3, hw3⟩ : ∃ w3, w2.alloc (.cells #[.int .i64 rp, .int .i64 rq, .slice A2 rl.length c2, .int .u32 (rd : Nat)] 32) = w3 := ⟨_, rfl⟩
  have hal : Below w2.heap.size w2 w3 := by rw [← hw3]; exact (Below.refl _ _).alloc (Nat.le_refl _) _
  have hk2 : Rb4 w2.heap.size w3 (.int .i64 rp) (.int .i64 rq) (.slice A2 rl.length c2) (.int .u32 (rd : Nat)) := by rw [← hw3]; exact heap_alloc_last _ _
  have hlt2 : w2.heap.size < w3.heap.size := by rw [← hw3]; simp
  have hk13 : Blk4 w1.heap.size w3 (.int .i64 rp) (.int .i64 rq) (.slice A1 rl.length c1) (.int .u32 (rd : Nat)) := (hal.block _ (Array.getElem?_eq_some_iff.1 hk1').1).trans hk1'
  have HC1 := Lib.hid (fun (wx : World) (h : Below w3.heap.size w3 wx) => Blk4.cells ((h.block _ (Array.getElem?_eq_some_iff.1 hk13).1).trans hk13))
  have HC2 := Lib.hid (fun (wx : World) (h : Below w3.heap.size w3 wx) => Rb4.cells ((h.block _ hlt2).trans hk2))
  have HSM := Lib.hid (fun (wx : World) (h : Below w3.heap.size w3 wx) => rsame_any A1 A2 ⟨rp, rq, rl, rd⟩ c1 c2 wx ((hf1'.below hal).below h) ((hf2.below hal).below h) (by show rl.length ≤ 1000000; omega) hc1 hc2)
  have HB3 := Lib.hid (hb02.trans (hal.mono hb02.size))
  have HW3 := Lib.hid hw3
  have hdr : Below w3.heap.size w3 w3.drew := below_drew w3
  clear hf1 hc1 hbA hk1 hlt1 hf1' hk1' hb02 hw3 hal hk2 hlt2 hk13 hf2 hc2 hm2 hb2 HR HF1
  go_upto_region 14 with fail
  rw [HW3.out]
  clear HW3
  refine wp_region_held_drew (S := fun w' => Below w3.heap.size w3 w') (by kernel_rfl) hdr (fun hS => ?_)
  refine wpAnyH_take (i := 0) (oi := { dst := some 64, op := Op.load 25 (Operand.tmp 6), type := 25, pos := "law.go:55", after := #[], guard := none }) (v := ?vgl1) rfl (by kernel_rfl) (by kernel_rfl) (by kernel_rfl) (fun _ _ _ h => h) (Or.inl ⟨by rfl, ?ygl1⟩) hS ?_
  case ygl1 =>
    intro w hSw
    obtain ⟨i0, i1, i2, i3⟩ := HC1.out w hSw
    go_simp; all_goals (with_reducible rfl)
  simp only [Act.put, List.setIfInBounds_toArray, List.set_cons_zero, List.set_cons_succ]
  refine wpAnyH_take (i := 2) (oi := { dst := some 66, op := Op.load 32 (Operand.tmp 9), type := 32, pos := "law.go:55", after := #[], guard := none }) (v := ?vgl2) rfl (by kernel_rfl) (by kernel_rfl) (by kernel_rfl) (fun _ _ _ h => h) (Or.inl ⟨by rfl, ?ygl2⟩) hS ?_
  case ygl2 =>
    intro w hSw
    obtain ⟨i0, i1, i2, i3⟩ := HC2.out w hSw
    go_simp; all_goals (with_reducible rfl)
  simp only [Act.put, List.setIfInBounds_toArray, List.set_cons_zero, List.set_cons_succ]
  refine wpAnyH_ready (rs := [1]) (by kernel_rfl) (by simp) ?_
  refine (AllReadyH.cons (o := { dst := some 65, op := Op.call { callee := Callee.value (Operand.func 8), args := #[Operand.tmp 64], argTypes := #[25] }, type := 32, pos := "law.go:55", after := #[{ on := 0, ground := Ground.data }], guard := none }) rfl (fun K hK => ?_) AllReadyH.nil)
  go_simp
  refine (as_any A1 ⟨rp, rq, rl, rd⟩ c1 w3.drew).mono ?_
  rintro e w5 ⟨rfl, hb5⟩
  have g5 : Below w3.heap.size w3 w5 := hdr.trans (hb5.mono hdr.size)
  clear hb5
  go_wp2_with fail
  refine hK.out _ _ g5 (fun _ => ?_)
  clear hK K
  refine wpAnyH_ready (rs := [3]) (by kernel_rfl) (by simp) ?_
  refine (AllReadyH.cons (o := { dst := some 67, op := Op.call { callee := Callee.value (Operand.func 11), args := #[Operand.tmp 65, Operand.tmp 66], argTypes := #[32, 32] }, type := 4, pos := "law.go:55", after := #[{ on := 1, ground := Ground.data }, { on := 2, ground := Ground.data }, { on := 1, ground := Ground.chain }], guard := none }) rfl (fun K hK => ?_) AllReadyH.nil)
  go_simp
  refine (HSM.out w5 g5).mono ?_
  rintro e w6 ⟨rfl, hb6⟩
  have g6 : Below w3.heap.size w3 w6 := g5.trans (hb6.mono g5.size)
  clear hb6
  go_wp2_with fail
  refine hK.out _ _ g6 (fun _ => ?_)
  clear hK K
  refine wpAnyH_take (i := 4) (oi := { dst := some 68, op := Op.move (Operand.tmp 67), type := 4, pos := "law.go:55", after := #[{ on := 3, ground := Ground.data }, { on := 3, ground := Ground.chain }], guard := none }) (v := ?vgl3) rfl (by kernel_rfl) (by kernel_rfl) (by kernel_rfl) (fun _ _ _ h => h) (Or.inl ⟨by rfl, ?ygl3⟩) g6 ?_
  case ygl3 =>
    intro w hSw
    go_simp; all_goals (with_reducible rfl)
  simp only [Act.put, List.setIfInBounds_toArray, List.set_cons_zero, List.set_cons_succ]
  refine wpAnyH_take (i := 5) (oi := { dst := some 69, op := Op.move (Operand.tmp 7), type := 3, pos := "law.go:55", after := #[{ on := 4, ground := Ground.guard }], guard := some (4, true) }) (v := ?vgl4) rfl (by kernel_rfl) (by kernel_rfl) (by kernel_rfl) (fun _ _ _ h => h) (Or.inl ⟨by rfl, ?ygl4⟩) g6 ?_
  case ygl4 =>
    intro w hSw
    go_simp; all_goals (with_reducible rfl)
  simp only [Act.put, List.setIfInBounds_toArray, List.set_cons_zero, List.set_cons_succ]
  refine wpAnyH_take (i := 6) (oi := { dst := some 70, op := Op.move (Operand.tmp 10), type := 3, pos := "law.go:55", after := #[{ on := 4, ground := Ground.guard }], guard := some (4, true) }) (v := ?vgl5) rfl (by kernel_rfl) (by kernel_rfl) (by kernel_rfl) (fun _ _ _ h => h) (Or.inl ⟨by rfl, ?ygl5⟩) g6 ?_
  case ygl5 =>
    intro w hSw
    go_simp; all_goals (with_reducible rfl)
  simp only [Act.put, List.setIfInBounds_toArray, List.set_cons_zero, List.set_cons_succ]
  refine wpAnyH_take (i := 7) (oi := { dst := some 71, op := Op.binOp BinOp.eql 3 (Operand.tmp 69) (Operand.tmp 70) 3, type := 4, pos := "law.go:55", after := #[{ on := 5, ground := Ground.data }, { on := 6, ground := Ground.data }, { on := 4, ground := Ground.guard }], guard := some (4, true) }) (v := ?vgl6) rfl (by kernel_rfl) (by kernel_rfl) (by kernel_rfl) (fun _ _ _ h => h) (Or.inl ⟨by rfl, ?ygl6⟩) g6 ?_
  case ygl6 =>
    intro w hSw
    go_simp; all_goals (with_reducible rfl)
  simp only [Act.put, List.setIfInBounds_toArray, List.set_cons_zero, List.set_cons_succ]
  refine wpAnyH_take (i := 8) (oi := { dst := some 72, op := Op.pick (Operand.tmp 68) (Operand.tmp 71) (Operand.const (Value.bool false)), type := 4, pos := "law.go:55", after := #[{ on := 4, ground := Ground.data }, { on := 7, ground := Ground.data }], guard := none }) (v := ?vgl7) rfl (by kernel_rfl) (by kernel_rfl) (by kernel_rfl) (fun _ _ _ h => h) (Or.inl ⟨by rfl, ?ygl7⟩) g6 ?_
  case ygl7 =>
    intro w hSw
    go_simp; all_goals (with_reducible rfl)
  simp only [Act.put, List.setIfInBounds_toArray, List.set_cons_zero, List.set_cons_succ]
  refine wpAnyH_take (i := 9) (oi := { dst := some 73, op := Op.move (Operand.tmp 72), type := 4, pos := "law.go:55", after := #[{ on := 8, ground := Ground.data }, { on := 4, ground := Ground.chain }], guard := none }) (v := ?vgl8) rfl (by kernel_rfl) (by kernel_rfl) (by kernel_rfl) (fun _ _ _ h => h) (Or.inl ⟨by rfl, ?ygl8⟩) g6 ?_
  case ygl8 =>
    intro w hSw
    go_simp; all_goals (with_reducible rfl)
  simp only [Act.put, List.setIfInBounds_toArray, List.set_cons_zero, List.set_cons_succ]
  refine wpAnyH_take (i := 10) (oi := { dst := some 74, op := Op.move (Operand.tmp 8), type := 28, pos := "law.go:55", after := #[{ on := 9, ground := Ground.guard }], guard := some (9, true) }) (v := ?vgl9) rfl (by kernel_rfl) (by kernel_rfl) (by kernel_rfl) (fun _ _ _ h => h) (Or.inl ⟨by rfl, ?ygl9⟩) g6 ?_
  case ygl9 =>
    intro w hSw
    go_simp; all_goals (with_reducible rfl)
  simp only [Act.put, List.setIfInBounds_toArray, List.set_cons_zero, List.set_cons_succ]
  refine wpAnyH_take (i := 11) (oi := { dst := some 75, op := Op.move (Operand.tmp 11), type := 3, pos := "law.go:55", after := #[{ on := 9, ground := Ground.guard }], guard := some (9, true) }) (v := ?vgl10) rfl (by kernel_rfl) (by kernel_rfl) (by kernel_rfl) (fun _ _ _ h => h) (Or.inl ⟨by rfl, ?ygl10⟩) g6 ?_
  case ygl10 =>
    intro w hSw
    go_simp; all_goals (with_reducible rfl)
  simp only [Act.put, List.setIfInBounds_toArray, List.set_cons_zero, List.set_cons_succ]
  refine wpAnyH_take (i := 12) (oi := { dst := some 76, op := Op.binOp BinOp.eql 3 (Operand.tmp 74) (Operand.tmp 75) 3, type := 4, pos := "law.go:55", after := #[{ on := 10, ground := Ground.data }, { on := 11, ground := Ground.data }, { on := 9, ground := Ground.guard }], guard := some (9, true) }) (v := ?vgl11) rfl (by kernel_rfl) (by kernel_rfl) (by kernel_rfl) (fun _ _ _ h => h) (Or.inl ⟨by rfl, ?ygl11⟩) g6 ?_
  case ygl11 =>
    intro w hSw
    go_simp; all_goals (with_reducible rfl)
  simp only [Act.put, List.setIfInBounds_toArray, List.set_cons_zero, List.set_cons_succ]
  refine wpAnyH_take (i := 13) (oi := { dst := some 77, op := Op.pick (Operand.tmp 73) (Operand.tmp 76) (Operand.const (Value.bool false)), type := 4, pos := "law.go:55", after := #[{ on := 9, ground := Ground.data }, { on := 12, ground := Ground.data }], guard := none }) (v := ?vgl12) rfl (by kernel_rfl) (by kernel_rfl) (by kernel_rfl) (fun _ _ _ h => h) (Or.inl ⟨by rfl, ?ygl12⟩) g6 ?_
  case ygl12 =>
    intro w hSw
    go_simp; all_goals (with_reducible rfl)
  simp only [Act.put, List.setIfInBounds_toArray, List.set_cons_zero, List.set_cons_succ]
  refine wpAnyH_take (i := 14) (oi := { dst := some 78, op := Op.move (Operand.tmp 77), type := 4, pos := "law.go:55", after := #[{ on := 13, ground := Ground.data }, { on := 9, ground := Ground.chain }], guard := none }) (v := ?vgl13) rfl (by kernel_rfl) (by kernel_rfl) (by kernel_rfl) (fun _ _ _ h => h) (Or.inl ⟨by rfl, ?ygl13⟩) g6 ?_
  case ygl13 =>
    intro w hSw
    go_simp; all_goals (with_reducible rfl)
  simp only [Act.put, List.setIfInBounds_toArray, List.set_cons_zero, List.set_cons_succ]
  refine wpAnyH_ready (rs := [15]) (by kernel_rfl) (by simp) ?_
  refine (AllReadyH.cons (o := { dst := some 79, op := Op.call { callee := Callee.value (Operand.func 5), args := #[], argTypes := #[] }, type := 4, pos := "law.go:55", after := #[{ on := 14, ground := Ground.chain }, { on := 14, ground := Ground.guard }], guard := some (14, true) }) rfl (fun K hK => ?_) AllReadyH.nil)
  go_simp
  refine (hdknows_any w6).mono ?_
  rintro e w7 ⟨rfl, hb7⟩
  have g7 : Below w3.heap.size w3 w7 := g6.trans (hb7.mono g6.size)
  go_wp2_with fail
  refine hK.out _ _ g7 (fun _ => ?_)
  clear hK K
  refine wpAnyH_ready (rs := [16]) (by kernel_rfl) (by simp) ?_
  refine (AllReadyH.cons (o := { dst := some 80, op := Op.pick (Operand.tmp 78) (Operand.tmp 79) (Operand.const (Value.bool false)), type := 4, pos := "law.go:55", after := #[{ on := 14, ground := Ground.data }, { on := 15, ground := Ground.data }], guard := none }) rfl (fun K hK => ?_) AllReadyH.nil)
  go_simp
  refine hK.out _ _ g7 (fun _ => ?_)
  clear hK K
  refine wpAnyH_ready (rs := [17]) (by kernel_rfl) (by simp) ?_
  refine (AllReadyH.cons (o := { dst := some 4, op := Op.assign (Operand.tmp 80), type := 4, pos := "law.go:55", after := #[{ on := 16, ground := Ground.data }, { on := 15, ground := Ground.chain }, { on := 0, ground := Ground.phase }, { on := 1, ground := Ground.phase }, { on := 2, ground := Ground.phase }, { on := 3, ground := Ground.phase }, { on := 4, ground := Ground.phase }, { on := 5, ground := Ground.phase }, { on := 6, ground := Ground.phase }, { on := 7, ground := Ground.phase }, { on := 8, ground := Ground.phase }, { on := 9, ground := Ground.phase }, { on := 10, ground := Ground.phase }, { on := 11, ground := Ground.phase }, { on := 12, ground := Ground.phase }, { on := 13, ground := Ground.phase }, { on := 14, ground := Ground.phase }, { on := 15, ground := Ground.phase }, { on := 16, ground := Ground.phase }], guard := none }) rfl (fun K hK => ?_) AllReadyH.nil)
  go_simp
  refine hK.out _ _ g7 (fun _ => ?_)
  clear hK K
  refine wpAnyH_done (by kernel_rfl) ?_ _
  go_wp2_with fail
  go_ret
  exact ⟨rfl, HB3.out.trans (g7.mono HB3.out.size)⟩
end Go.Proofs.YtaggkcgeddoogaaDoor
