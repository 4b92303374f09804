/- The reference: one filter. -/
import Derived.Test.YtaggkcgeddoogaaDoorHdRPut
import Derived.Deep.DeepCutAuto
namespace Go.Proofs.YtaggkcgeddoogaaDoor
open Go.RowKit

def kOne (l : List UInt8) : Nat := if (oneM l).2.2 = 0 then l.length - (oneM l).2.1.length else 0
def ROneDone (l : List UInt8) (w : World) (e : Ending) (w' : World) : Prop :=
  e = .returned (.tuple #[(oneM l).1.agg, .int .i64 (kOne l : Nat), .int .i64 ((oneM l).2.2 : Nat)]) ∧ Below w.heap.size w w'
theorem ROneDone.err {l : List UInt8} {er : Nat} {w w' : World} (h : oneM l = (⟨0, 0⟩, [], er)) (h0 : er ≠ 0) (hb : Below w.heap.size w w') : ROneDone l w (.returned (.tuple #[.agg #[.int .i64 0, .int .u32 0], .int .i64 0, .int .i64 (er : Nat)])) w' := by
  unfold ROneDone kOne; rw [h]; exact ⟨by rw [if_neg h0]; rfl, hb⟩
theorem ROneDone.yes {l l' : List UInt8} {f : Fil} {k : Nat} {w w' : World} (h : oneM l = (f, l', 0)) (hk : k = l.length - l'.length) (hb : Below w.heap.size w w') : ROneDone l w (.returned (.tuple #[f.agg, .int .i64 (k : Nat), .int .i64 0])) w' := by
  unfold ROneDone kOne; rw [h]; exact ⟨by rw [if_pos rfl, hk]; rfl, hb⟩
theorem one_drop {l l' : List UInt8} {f : Fil} (h : oneM l = (f, l', 0)) : l' = l.drop (l.length - l'.length) ∧ l'.length ≤ l.length := by
  unfold oneM at h
  split at h
  · simp at h
  · rename_i id l1 h1
    split at h
    · simp at h
    · rename_i n l2 h2
      split at h
      · simp at h
      · split at h
        · simp at h
        · split at h
          · simp at h
          · simp only [Prod.mk.injEq, and_true] at h
            obtain ⟨_, h⟩ := h
            obtain ⟨_, _, k, hk, _, _, rfl⟩ := next_some h1
            obtain ⟨_, _, m, hm, _, _, rfl⟩ := next_some h2
            subst h
            simp only [List.drop_drop, List.length_drop] at *
            exact ⟨by congr 1; omega, by omega⟩

set_option maxRecDepth 100000 in
set_option maxHeartbeats 4000000 in
theorem rone_any (A : Option Addr) (l : List UInt8) (c : Nat) (w : World) (hB : Bytes w A l) (hc : l.length ≤ c) (hm : c ≤ 9223372036854775807) (hl : l.length ≤ 1000000) :
    Calls Tryd.prog 46 #[.slice A l.length c] w (ROneDone l w) := by
  obtain ⟨W0, hW0⟩ : ∃ W0, w.alloc (.cells #[.int .i64 0, .int .u32 0] 48) = W0 := ⟨_, rfl⟩
  have hb0 : Below w.heap.size w W0 := by rw [← hW0]; exact (Below.refl _ _).alloc (Nat.le_refl _) _
  have hf0 : FilBox w.heap.size W0 ⟨0, 0⟩ := by rw [← hW0]; exact heap_alloc_last _ _
  have hlt0 : w.heap.size < W0.heap.size := by rw [← hW0]; simp
  have HW0 := Lib.hid hW0
  have hB0 := hB.below hb0
  have HB0 := Lib.hid hB0
  have HG := Lib.hid (rget_any A l c W0 hB0 (by omega))
  have HM : Hid (oneM l = match nextM l with
    | none => (⟨0, 0⟩, [], 4)
    | some (ix, l1) => match nextM l1 with
      | none => (⟨0, 0⟩, [], 4)
      | some (n, l2) => if l2.length < n then (⟨0, 0⟩, [], 4) else if 2147483648 ≤ ix then (⟨0, 0⟩, [], 5) else match readL (ix : Int) (l2.take n) with
        | none => (⟨0, 0⟩, [], 5)
        | some f => (f, l2.drop n, 0)) := Lib.hid rfl
  have HSET : Hid (∀ (wx : World) (u1 u2 : Value), Below w.heap.size w wx → Below w.heap.size w ((wx.setCell ⟨w.heap.size, 0, none⟩ u1).setCell ⟨w.heap.size, 1, none⟩ u2)) := Lib.hid (fun wx u1 u2 h => Below.setCell (p := ⟨w.heap.size, 1, none⟩) (Below.setCell (p := ⟨w.heap.size, 0, none⟩) h (Nat.le_refl _) _) (Nat.le_refl _) _)
  have HF0 := Lib.hid hf0
  have HBW := Lib.hid hb0
  obtain ⟨c0, c1, f0, f1⟩ := hf0.cells
  simp only at c0 c1
  have hli : (l.length : Int) ≤ 1000000 := by omega
  have hci : (l.length : Int) ≤ (c : Int) := by omega
  clear hW0 hB hB0 hf0 hb0
  cases hn : nextM l with
  | none =>
    rw [hn] at HM
    have HNO : Hid (oneM l = (⟨0, 0⟩, [], 4)) := Lib.hid HM.out
    rcases next_none hn with h | h
    all_goals
      rw [h] at HG
      clear h hn HM
      go_enter Tryd.func46, Tryd.ntmps46
      go_upto_region 1 with fail
      rw [HW0.out]
      clear HW0
      go_wp2_with fail
      refine HG.out.mono ?_
      rintro e w1 ⟨rfl, rfl⟩
      go_wp2_with fail
      have k1 := FilBox.zero HF0.out
      obtain ⟨k0, _, _, _⟩ := (FilBox.set1 HF0.out 0).cells
      simp only at k0
      exact bodyPost_ret (v := .tuple #[.agg #[.int .i64 0, .int .u32 0], .int .i64 0, .int .i64 4]) (by simp [results, Tryd.results46, go_sem, k0, k1]) rfl (ROneDone.err HNO.out (by decide) (HSET.out _ _ _ HBW.out))
  | some r1 =>
    obtain ⟨ix, l1⟩ := r1
    rw [hn] at HM
    obtain ⟨hid, hl1, k, hk, hk0, hgk, hl1e⟩ := next_some hn
    rw [hgk] at HG
    have HM1 : Hid (oneM l = match nextM l1 with
      | none => (⟨0, 0⟩, [], 4)
      | some (n, l2) => if l2.length < n then (⟨0, 0⟩, [], 4) else if 2147483648 ≤ ix then (⟨0, 0⟩, [], 5) else match readL (ix : Int) (l2.take n) with
        | none => (⟨0, 0⟩, [], 5)
        | some f => (f, l2.drop n, 0)) := Lib.hid HM.out
    have hl1l : l1.length = l.length - k := by rw [hl1e, List.length_drop]
    have HCC := Lib.hid (And.intro hc (And.intro hm hl))
    have hB1 : Bytes W0 (A.map fun x => x.add k) l1 := by rw [hl1e]; exact HB0.out.cut k
    have HG1 := Lib.hid (show ∀ A2 c2, ((c = k ∧ A2 = A) ∨ A2 = (A.map fun x => x.add k)) → Calls Tryd.prog 45 #[.slice A2 (l.length - k) c2] W0 (Got W0 (Vl.get l1)) from fun A2 c2 h => by
      have hb2 : Bytes W0 A2 l1 := by
        rcases h with ⟨h1, _⟩ | h1
        · have : l1 = [] := List.eq_nil_of_length_eq_zero (by omega)
          rw [this]; exact .nil
        · rw [h1]; exact hB1
      have := rget_any A2 l1 c2 W0 hb2 (by omega)
      rwa [hl1l] at this)
    have hki : (k : Int) ≤ (l.length : Int) := by omega
    have hidi : (ix : Int) < 9223372036854775808 := by omega
    rcases hg : Vl.get l1 with ⟨g1, g2, g3⟩
    rw [hg] at HG1
    have HE := Lib.hid (And.intro hl1e (And.intro hl1l (And.intro hg hl1)))
    clear hgk hn HM hk0 hB1 hl1e hl1l hg hl1 hid hc hm hl
    go_enter Tryd.func46, Tryd.ntmps46
    go_upto_region 1 with fail
    rw [HW0.out]
    clear HW0
    go_wp2_with fail
    refine HG.out.mono ?_
    rintro e w1 ⟨rfl, rfl⟩
    go_upto_region 4 with fail
    go_cut [8, 9, 10] from 13 (fun s8 s9 s10 wx => s8 = .int .u64 (g1 : Nat) ∧ s9 = .int .i64 (g2 : Nat) ∧ s10 = .int .i64 (g3 : Nat) ∧ wx = W0)
    case first =>
      clear hci hidi
      by_cases hck : c = k
      · subst hck
        go_wp2_with fail
        refine (HG1.out _ _ (.inl ⟨trivial, rfl⟩)).mono ?_
        rintro e w2 ⟨rfl, rfl⟩
        go_wp2_with fail
        go_meet
        exact ⟨rfl, rfl, rfl, rfl⟩
      · go_wp2_with fail
        refine (HG1.out _ _ (.inr rfl)).mono ?_
        rintro e w2 ⟨rfl, rfl⟩
        go_wp2_with fail
        go_meet
        exact ⟨rfl, rfl, rfl, rfl⟩
    case rest =>
    obtain ⟨rfl, rfl, rfl, rfl⟩ := hcut
    clear hci hidi
    obtain ⟨hl1e, hl1l, hg, hl1⟩ := HE.out
    cases hn2 : nextM l1 with
    | none =>
      rw [hn2] at HM1
      have HNO : Hid (oneM l = (⟨0, 0⟩, [], 4)) := Lib.hid HM1.out
      have hg3 : g3 = 2 ∨ g3 = 6 := by
        rcases next_none hn2 with h | h
        · rw [hg] at h; injection h with h1 h; injection h with h2 h3; exact .inl h3
        · rw [hg] at h; injection h with h1 h; injection h with h2 h3; exact .inr h3
      rcases hg3 with rfl | rfl
      all_goals
        clear hn2 HM1 hg HG1 hl1e hl1l hl1 hk hki hli
        go_wp2_with fail
        have k1 := FilBox.zero HF0.out
        obtain ⟨k0, _, _, _⟩ := (FilBox.set1 HF0.out 0).cells
        simp only at k0
        exact bodyPost_ret (v := .tuple #[.agg #[.int .i64 0, .int .u32 0], .int .i64 0, .int .i64 4]) (by simp [results, Tryd.results46, go_sem, k0, k1]) rfl (ROneDone.err HNO.out (by decide) (HSET.out _ _ _ HBW.out))
    | some r2 =>
      obtain ⟨n, l2⟩ := r2
      rw [hn2] at HM1
      obtain ⟨hnb, hl2, m, hm1, hm0, hgm, hl2e⟩ := next_some hn2
      rw [hg] at hgm
      obtain ⟨rfl, rfl, rfl⟩ : g1 = n ∧ g2 = m ∧ g3 = 0 := by injection hgm with h1 h; injection h with h2 h3; exact ⟨h1, h2, h3⟩
      have HM2 : Hid (oneM l = if l2.length < g1 then (⟨0, 0⟩, [], 4) else if 2147483648 ≤ ix then (⟨0, 0⟩, [], 5) else match readL (ix : Int) (l2.take g1) with
        | none => (⟨0, 0⟩, [], 5)
        | some f => (f, l2.drop g1, 0)) := Lib.hid HM1.out
      have hl2l : l2.length = l.length - k - g2 := by rw [hl2e, List.length_drop, hl1l]
      obtain ⟨RR, hRR⟩ : ∃ RR, l2.length = RR := ⟨_, rfl⟩
      have hRi : (l.length : Int) - (k : Int) - (g2 : Int) = (RR : Int) := by omega
      have hni : (g1 : Int) < 9223372036854775808 := by omega
      have hRb : (RR : Int) ≤ 1000000 := by omega
      by_cases hgt : l2.length < g1
      · have HNO : Hid (oneM l = (⟨0, 0⟩, [], 4)) := Lib.hid (by rw [HM2.out, if_pos hgt])
        have hgi : (RR : Int) < (g1 : Int) := by omega
        clear hgt HM1 HM2 hn2 hgm HG1 hg hl2e hl2l hRR hl1e hl1l hl1 hl2 hnb hm1 hm0
        go_wp2_with fail
        have k1 := FilBox.zero HF0.out
        obtain ⟨k0, _, _, _⟩ := (FilBox.set1 HF0.out 0).cells
        simp only at k0
        exact bodyPost_ret (v := .tuple #[.agg #[.int .i64 0, .int .u32 0], .int .i64 0, .int .i64 4]) (by simp [results, Tryd.results46, go_sem, k0, k1]) rfl (ROneDone.err HNO.out (by decide) (HSET.out _ _ _ HBW.out))
      have HM3 : Hid (oneM l = if 2147483648 ≤ ix then (⟨0, 0⟩, [], 5) else match readL (ix : Int) (l2.take g1) with
        | none => (⟨0, 0⟩, [], 5)
        | some f => (f, l2.drop g1, 0)) := Lib.hid (by rw [HM2.out, if_neg hgt])
      have hgi : ¬ ((RR : Int) < (g1 : Int)) := by omega
      by_cases hbig : 2147483648 ≤ ix
      · have HNO : Hid (oneM l = (⟨0, 0⟩, [], 5)) := Lib.hid (by rw [HM3.out, if_pos hbig])
        have hbi : (2147483648 : Int) ≤ (ix : Int) := by omega
        clear hgt HM1 HM2 HM3 hn2 hgm HG1 hg hl2e hl2l hRR hl1e hl1l hbig hl1 hl2 hnb hm1 hm0
        go_wp2_with fail
        have k1 := FilBox.zero HF0.out
        obtain ⟨k0, _, _, _⟩ := (FilBox.set1 HF0.out 0).cells
        simp only at k0
        exact bodyPost_ret (v := .tuple #[.agg #[.int .i64 0, .int .u32 0], .int .i64 0, .int .i64 5]) (by simp [results, Tryd.results46, go_sem, k0, k1]) rfl (ROneDone.err HNO.out (by decide) (HSET.out _ _ _ HBW.out))
      have HM4 : Hid (oneM l = match readL (ix : Int) (l2.take g1) with
        | none => (⟨0, 0⟩, [], 5)
        | some f => (f, l2.drop g1, 0)) := Lib.hid (by rw [HM3.out, if_neg hbig])
      have hbi : ¬ ((2147483648 : Int) ≤ (ix : Int)) := by omega
      obtain ⟨hcc1, hcc2, hcc3⟩ := HCC.out
      have hsum : (k : Int) + (g2 : Int) + (g1 : Int) ≤ (l.length : Int) := by omega
      have HWR := Lib.hid (show wrap64 (ix : Int) = (ix : Int) from by unfold wrap64; omega)
      have hlc : (l.length : Int) ≤ (c : Int) := by omega
      have hmi : (c : Int) ≤ 9223372036854775807 := by omega
      have hl2d : l2 = l.drop (k + g2) := by rw [hl2e, hl1e, List.drop_drop]
      have hlt : (l2.take g1).length = g1 := by rw [List.length_take]; omega
      have HKK := Lib.hid (show k + g2 + g1 = l.length - (l2.drop g1).length by rw [List.length_drop]; omega)
      have hbb : Bytes wc (A.map fun x => x.add (k + g2)) (l2.take g1) := by rw [hl2d]; exact (HB0.out.cut (k + g2)).take g1
      have hlt00 := hlt0
      have HLT := Lib.hid hlt00
      have HRR := Lib.hid (show ∀ A2 c2, ((c = k + g2 ∧ A2 = A) ∨ A2 = (A.map fun x => x.add (k + g2))) → Calls Tryd.prog 65 #[.int .i64 (ix : Int), .slice A2 g1 c2] wc (OutF wc (.bool true) (.bool false) (readL (ix : Int) (l2.take g1))) from fun A2 c2 h => by
        have hb2 : Bytes wc A2 (l2.take g1) := by
          rcases h with ⟨h1, _⟩ | h1
          · have : l2.take g1 = [] := List.eq_nil_of_length_eq_zero (by omega)
            rw [this]; exact .nil
          · rw [h1]; exact hbb
        have := rread_any (ix : Int) A2 (l2.take g1) c2 wc hb2
        rwa [hlt] at this)
      clear HM1 HM2 HM3 hn2 hgm HG1 hl1 hnb hm0 hcc1 hcc2 hcc3 hl2d hlt hbb hlt00
      go_upto_region 9 with fail
      clear hbi hgi hRi hRb hki hk hbig hni hlt0 hgt hl2l hRR hg hm1 hl1l hl1e hl2e c0 c1 f0 f1
      have HFC := Lib.hid (show ∀ w1, Below wc.heap.size wc w1 → FilBox w.heap.size w1 ⟨0, 0⟩ ∧ Below w.heap.size w w1 from fun w1 h => ⟨(h.block _ HLT.out).trans HF0.out, HBW.out.trans (h.mono (by have := HLT.out; omega))⟩)
      cases hrd : readL (ix : Int) (l2.take g1) with
      | none =>
        rw [hrd] at HRR HM4
        have HNO : Hid (oneM l = (⟨0, 0⟩, [], 5)) := Lib.hid HM4.out
        clear HM4 hrd
        go_wp2_with fail
        all_goals
          rw [HWR.out]
          refine (HRR.out _ _ (by first | exact .inr rfl | exact .inl ⟨by assumption, rfl⟩)).mono ?_
          rintro e w1 ⟨rfl, hb1⟩
          have HL1 := Lib.hid (show w.heap.size < w1.heap.size from Nat.lt_of_lt_of_le HLT.out hb1.size)
          obtain ⟨hf1, hb01⟩ := HFC.out w1 hb1
          have hf2 : FilBox w.heap.size (w1.alloc (.cells #[.int .i64 0, .int .u32 (0 : Nat)] 48)) ⟨0, 0⟩ := (Below.heap_alloc _ _ _ HL1.out).trans hf1
          have hb2 : Below w.heap.size w (w1.alloc (.cells #[.int .i64 0, .int .u32 (0 : Nat)] 48)) := hb01.alloc (Nat.le_of_lt HL1.out) _
          have hg2 : FilBox w1.heap.size (w1.alloc (.cells #[.int .i64 0, .int .u32 (0 : Nat)] 48)) ⟨0, 0⟩ := heap_alloc_last _ _
          clear hf1 hb01 hb1
          go_upto_region 11 with fail
          generalize w1.alloc _ = w2 at hf2 hb2 hg2 ⊢
          have HB2 := Lib.hid hb2
          have HF2 := Lib.hid hf2
          obtain ⟨c0, c1, f0, f1⟩ := hf2.cells
          simp only at c0 c1
          clear hb2 hf2 hg2
          go_wp2_with fail
          have k1 := FilBox.zero HF2.out
          obtain ⟨k0, _, _, _⟩ := (FilBox.set1 HF2.out 0).cells
          simp only at k0
          exact bodyPost_ret (v := .tuple #[.agg #[.int .i64 0, .int .u32 0], .int .i64 0, .int .i64 5]) (by simp [results, Tryd.results46, go_sem, k0, k1]) rfl (ROneDone.err HNO.out (by decide) (HSET.out _ _ _ HB2.out))
      | some f =>
        obtain ⟨fid, fn⟩ := f
        rw [hrd] at HRR HM4
        have HNO : Hid (oneM l = (⟨fid, fn⟩, l2.drop g1, 0)) := Lib.hid HM4.out
        clear HM4 hrd
        go_wp2_with fail
        all_goals
          rw [HWR.out]
          refine (HRR.out _ _ (by first | exact .inr rfl | exact .inl ⟨by assumption, rfl⟩)).mono ?_
          rintro e w1 ⟨rfl, hb1⟩
          have HL1 := Lib.hid (show w.heap.size < w1.heap.size from Nat.lt_of_lt_of_le HLT.out hb1.size)
          obtain ⟨hf1, hb01⟩ := HFC.out w1 hb1
          have hf2 : FilBox w.heap.size (w1.alloc (.cells #[.int .i64 fid, .int .u32 (fn : Nat)] 48)) ⟨0, 0⟩ := (Below.heap_alloc _ _ _ HL1.out).trans hf1
          have hb2 : Below w.heap.size w (w1.alloc (.cells #[.int .i64 fid, .int .u32 (fn : Nat)] 48)) := hb01.alloc (Nat.le_of_lt HL1.out) _
          have hg2 : FilBox w1.heap.size (w1.alloc (.cells #[.int .i64 fid, .int .u32 (fn : Nat)] 48)) ⟨fid, fn⟩ := heap_alloc_last _ _
          clear hf1 hb01 hb1
          go_upto_region 12 with fail
          generalize w1.alloc _ = w2 at hf2 hb2 hg2 ⊢
          have HB2 := Lib.hid hb2
          have HF2 := Lib.hid hf2
          obtain ⟨c0, c1, f0, f1⟩ := hf2.cells
          obtain ⟨d0, d1, _, _⟩ := hg2.cells
          simp only at c0 c1 d0 d1
          clear hb2 hf2 hg2
          go_wp2_with fail
          obtain ⟨_, k1, _, _⟩ := (FilBox.set2 HF2.out fid fn).cells
          obtain ⟨k0, _, _, _⟩ := (FilBox.set1 HF2.out fid).cells
          simp only at k0 k1
          exact bodyPost_ret (v := .tuple #[.agg #[.int .i64 fid, .int .u32 (fn : Nat)], .int .i64 ((k + g2 + g1 : Nat) : Int), .int .i64 0]) (by simp [results, Tryd.results46, go_sem, k0, k1]) rfl (ROneDone.yes HNO.out HKK.out (HSET.out _ _ _ HB2.out))
end Go.Proofs.YtaggkcgeddoogaaDoor
