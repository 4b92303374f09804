/- The model's Put. -/
import Derived.Test.YtklkboplkobhgaaGreatMdPerm
import Derived.Test.YtklkboplkobhgaaGreatMdNewAll
namespace Go.Proofs.YtklkboplkobhgaaGreat
set_option maxRecDepth 100000
open Go.RowKit

theorem fitsZ_lit {r : R4} {n l d q : Int} : fitsZ r n 0 l d q = true := by unfold fitsZ; simp
/-- What fits, told apart. -/
theorem fitsZ_cases {r : R4} {n k l d q : Int} (h : fitsZ r n k l d q = true) : k = 0 ∨ (k = 1 ∧ 2 ≤ l ∧ l ≤ 273 ∧ 1 ≤ d ∧ d ≤ n ∧ d ≤ 4294967295) ∨ (k = 2 ∧ 0 ≤ q ∧ q ≤ 3 ∧ rAt r q ≤ n ∧ ((2 ≤ l ∧ l ≤ 273) ∨ (l = 1 ∧ q = 0))) := by
  unfold fitsZ at h
  by_cases k1 : k = 1
  · rw [if_pos k1] at h
    exact .inr (.inl ⟨k1, of_decide_eq_true h⟩)
  · rw [if_neg k1] at h
    by_cases k2 : k = 2
    · rw [if_pos k2] at h
      exact .inr (.inr ⟨k2, of_decide_eq_true h⟩)
    · rw [if_neg k2] at h
      exact .inl (of_decide_eq_true h)
set_option maxRecDepth 100000 in
set_option maxHeartbeats 1000000 in
theorem put_no {C L lc lp pb st : Nat} {r : R4} {P : Nat → Nat} {w : World} (hM : ModAt w C L lc lp pb st r P) (v : Value) (A : Option Addr) (n c : Nat) (hn : n ≤ 1000000000) (k : Int) (b : UInt8) (l d q : Int) (hf : fitsZ r (n : Int) k l d q = false) :
    Calls Tryz.prog 37 #[PF C, v, .slice A n c, SyV k b l d q] w (Tells (.int .i64 1) w) := by
  obtain ⟨W1, hW1⟩ : ∃ W1, w.alloc (.cells #[.int .i64 k, .int .u8 (b.toNat : Nat), .int .i64 l, .int .i64 d, .int .i64 q] 96) = W1 := ⟨_, rfl⟩
  obtain ⟨y0, y1, y2, y3, y4, hbb⟩ := sy_box1 hW1
  have HP := Lib.hid (permits_any (hM.keep (hbb.block _ hM.clt) (hbb.block _ hM.llt)) A n c hn k b l d q)
  rw [hf] at HP
  have HB := Lib.hid hbb
  have HW1 := Lib.hid hW1
  clear hM hbb hW1 hf
  go_enter Tryz.func37, Tryz.ntmps37
  go_upto_region 1 with fail
  rw [HW1.out]
  go_wp2_with fail
  refine HP.out.mono ?_
  rintro e w2 ⟨rfl, hb2⟩
  go_wp2_with fail
  go_ret
  exact ⟨rfl, HB.out.trans (hb2.mono HB.out.size)⟩
set_option maxRecDepth 100000 in
set_option maxHeartbeats 1000000 in
theorem put_yes {g C L lc lp pb st : Nat} {r : R4} {x : (encIo g).S} {X : List Nat} {w : World} (hM : MS (encIo g) w C L lc lp pb st r x X) (hlc : lc ≤ 4) (hlp : lp ≤ 4) (hpb : pb ≤ 4) (hst : st < 12) (hr : rGood r) {k : Nat} (A : Option Addr) (H : List UInt8) (c : Nat) (hB : Bytes w A H) (hc : H.length ≤ c) (hH : H.length ≤ 1000000000) (hHX : ∀ a, A = some a → a.block ∉ C :: L :: X)
    (kk : Int) (b : UInt8) (l d q : Int) (hf : fitsZ r (H.length : Int) kk l d q = true) {s' : Sy} {st' : Nat} {r' : R4} {Z : (encIo g).S} (hR : Md.sym (encIo g) lc lp pb st r H kk b l d q x = (s', st', r', Z)) (hok : (encIo g).ok x.2 (k + 54)) :
    Calls Tryz.prog 37 #[PF C, PF g, .slice A H.length c, SyV kk b l d q] w (MAnd (s'.k ≤ 2 ∧ s'.r ≤ 3 ∧ s'.l ≤ 273 ∧ (s'.d : Int) ≤ 4294967296 ∧ st' < 12 ∧ rGood r' ∧ (encIo g).ok Z.2 k) (MDone (.int .i64 0) (encIo g) C L lc lp pb st' r' Z X w)) := by
  obtain ⟨Q, hQ⟩ : ∃ Q, (s'.k ≤ 2 ∧ s'.r ≤ 3 ∧ s'.l ≤ 273 ∧ (s'.d : Int) ≤ 4294967296 ∧ st' < 12 ∧ rGood r' ∧ (encIo g).ok Z.2 k) = Q := ⟨_, rfl⟩
  rw [hQ]
  have HQ := Lib.hid hQ
  clear hQ
  obtain ⟨W1, hW1⟩ : ∃ W1, w.alloc (.cells #[.int .i64 kk, .int .u8 (b.toNat : Nat), .int .i64 l, .int .i64 d, .int .i64 q] 96) = W1 := ⟨_, rfl⟩
  obtain ⟨y0, y1, y2, y3, y4, hbb⟩ := sy_box1 hW1
  have hM1 := hM.below hbb
  have HP := Lib.hid (permits_any hM1.mod A H.length c hH kk b l d q)
  rw [hf] at HP
  have hcase := fitsZ_cases hf
  have HC := Lib.hid (fun (w2 : World) (hb2 : Below W1.heap.size W1 w2) => sym_is (encIo g) (hM1.below hb2) hlc hlp hpb hst hr A H c ((hB.below hbb).below hb2) hc hH hHX kk b l d q (by
      intro h
      have hk : kk ≠ 0 := fun e => by subst e; simp [Io.bitAt, encIo] at h
      rcases hcase with e | ⟨e, h1⟩ | ⟨e, h1⟩
      · exact absurd e hk
      · omega
      · omega) (by
      intro h h2
      have hk : kk = 1 := by
        by_cases e : kk = 1
        · exact e
        · simp [Io.bitAt, encIo, e] at h2
      rcases hcase with e | ⟨e, h1⟩ | ⟨e, h1⟩
      · omega
      · omega
      · omega) hR hok)
  have HB := Lib.hid hbb
  have HW1 := Lib.hid hW1
  have HSY := Lib.hid (And.intro y0 (And.intro y1 (And.intro y2 (And.intro y3 y4))))
  have HLT : Hid (w.heap.size < W1.heap.size) := Lib.hid (by rw [← hW1]; simp)
  clear hM hbb hW1 hf hM1 hB hcase hR hok hHX hr y0 y1 y2 y3 y4
  have hqq := HSY.out
  obtain ⟨y0, y1, y2, y3, y4⟩ := hqq
  go_enter Tryz.func37, Tryz.ntmps37
  go_upto_region 1 with fail
  rw [HW1.out]
  go_wp2_with fail
  refine HP.out.mono ?_
  rintro e w2 ⟨rfl, hb2⟩
  have z0 := (hb2.cell (p := ⟨w.heap.size, 0, none⟩) HLT.out).trans y0
  have z1 := (hb2.cell (p := ⟨w.heap.size, 1, none⟩) HLT.out).trans y1
  have z2 := (hb2.cell (p := ⟨w.heap.size, 2, none⟩) HLT.out).trans y2
  have z3 := (hb2.cell (p := ⟨w.heap.size, 3, none⟩) HLT.out).trans y3
  have z4 := (hb2.cell (p := ⟨w.heap.size, 4, none⟩) HLT.out).trans y4
  have HB2 := Lib.hid hb2
  clear hb2 y0 y1 y2 y3 y4
  go_wp2_with fail
  refine (HC.out w2 HB2.out).mono ?_
  rintro e w3 ⟨⟨rfl, X3, hM3, hon3, hX3⟩, hq3⟩
  have HM3 := Lib.hid hM3
  have HO3 := Lib.hid (And.intro hon3 hX3)
  have HQ3 := Lib.hid hq3
  clear hM3 hon3 hX3 hq3
  go_wp2_with fail
  go_ret
  have hw2 := HB.out.trans (HB2.out.mono HB.out.size)
  refine ⟨⟨rfl, X3, HM3.out, (Only.of_below hw2).trans HO3.out.1 (fun i hi => .inl hi), fun i hi => ?_⟩, by rw [← HQ.out]; exact HQ3.out⟩
  rcases HO3.out.2 i hi with h | h
  · exact .inl h
  · exact .inr (Nat.le_trans hw2.size h)
end Go.Proofs.YtklkboplkobhgaaGreat
