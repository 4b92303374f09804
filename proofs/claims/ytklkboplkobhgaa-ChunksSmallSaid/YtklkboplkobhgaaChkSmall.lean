/- ChunksSmall: for every input the law returns true. -/
import Derived.Test.YtklkboplkobhgaaChkKnows
namespace Go.Proofs.Ytklkboplkobhgaa
set_option maxRecDepth 100000
open Go.RowKit

/-- How many bytes all chunks are, at most. -/
theorem packB_len {k : PkS} (hc : 1 ≤ k.chunk) {Q : Nat} (hQ : Q = (k.D.length + k.chunk.toNat - 1) / k.chunk.toNat) : (packB k).length ≤ k.D.length + 3 * Q + 1 := by
  have hc1 : 1 ≤ k.chunk.toNat := by omega
  have h1 := packGo_len (k := k) (n := k.D.length) hc1 rfl (k.D.length - 0) 0 (none, false) (Nat.le_refl _)
  have h2 := partsL_many (n := k.D.length) hc1 (k.D.length - 0) 0 (Nat.le_refl _)
  have h3 : (partsL k.D.length k.chunk.toNat 0).length ≤ Q := by
    rw [hQ]
    rw [Nat.le_div_iff_mul_le (by omega)]
    omega
  unfold packB
  rw [List.length_append]
  show _ + 1 ≤ _
  omega
set_option maxRecDepth 100000 in
set_option maxHeartbeats 2000000 in
theorem small_law (A : Option Addr) (D : List UInt8) (c : Nat) (lc lp pb nice chunk block check : Int) (chain : Value) (dict : Nat) (w : World) (hB : Bytes w A D ∧ ∀ a, A = some a → a.block < w.heap.size) (hc : D.length ≤ c) (hm : c ≤ 9223372036854775807) (_ : dict < 4294967296) :
    Calls Try.prog 3 #[.slice A D.length c, OptV lc lp pb nice chunk block check chain dict] w (Holds w) := by
  obtain ⟨W, hW⟩ : ∃ W, w.alloc (.cells #[.int .i64 lc, .int .i64 lp, .int .i64 pb, .int .i64 nice, .int .i64 chunk, .int .i64 block, .int .i64 check, chain, .int .u32 (dict : Nat)] 26) = W := ⟨_, rfl⟩
  obtain ⟨hrow, hbW⟩ := optBox (vs := optRow lc lp pb nice chunk block check chain dict) hW
  have HCE : Hid (∀ W', Below W.heap.size W W' → W'.cell? ⟨w.heap.size, 0, none⟩ = some (.int .i64 lc) ∧ W'.cell? ⟨w.heap.size, 1, none⟩ = some (.int .i64 lp) ∧ W'.cell? ⟨w.heap.size, 2, none⟩ = some (.int .i64 pb) ∧ W'.cell? ⟨w.heap.size, 3, none⟩ = some (.int .i64 nice) ∧ W'.cell? ⟨w.heap.size, 4, none⟩ = some (.int .i64 chunk) ∧ W'.cell? ⟨w.heap.size, 5, none⟩ = some (.int .i64 block) ∧ W'.cell? ⟨w.heap.size, 6, none⟩ = some (.int .i64 check) ∧ W'.cell? ⟨w.heap.size, 7, none⟩ = some chain ∧ W'.cell? ⟨w.heap.size, 8, none⟩ = some (.int .u32 (dict : Nat))) := Lib.hid (fun W' hb' => by
    have r := (hb'.block _ (Array.getElem?_eq_some_iff.1 hrow).1).trans hrow
    refine ⟨?_, ?_, ?_, ?_, ?_, ?_, ?_, ?_, ?_⟩ <;> (rw [cell_of_row W' _ _ _ _ _ r]; rfl))
  obtain ⟨c0, c1, c2, c3, c4, c5, c6, c7, c8⟩ := HCE.out W (Below.refl _ _)
  have HW := Lib.hid hW
  have HB := Lib.hid hbW
  have HBY := Lib.hid hB
  have HCC := Lib.hid hc
  have HKN := Lib.hid (fun W => knows_any W)
  have hmi : (D.length : Int) ≤ 9223372036854775807 := by omega
  clear hrow hW hbW hB hc hm
  by_cases hbig : (3000 : Int) < (D.length : Int)
  · go_enter Try.func3, Try.ntmps3
    go_upto_region 1 with fail
    rw [HW.out]
    go_wp2_with fail
    refine (HKN.out W).mono ?_
    rintro e w1 ⟨rfl, hb⟩
    go_wp2_with fail
    go_ret
    exact ⟨rfl, HB.out.trans (hb.mono HB.out.size)⟩
  · cases hf : fineB lc lp pb nice chunk dict with
    | false =>
      have HPB := Lib.hid (pack_bad (.slice A D.length c) lc lp pb nice chunk block check chain dict W hf)
      clear hf
      go_enter Try.func3, Try.ntmps3
      go_upto_region 1 with fail
      rw [HW.out]
      go_wp2_with fail
      refine HPB.out.mono ?_
      rintro e w1 ⟨rfl, hb⟩
      have HB1 := Lib.hid (HB.out.trans (hb.mono HB.out.size))
      clear hb c0 c1 c2 c3 c4 c5 c6 c7 c8
      go_wp2_with fail
      refine (HKN.out w1).mono ?_
      rintro e w2 ⟨rfl, hb2⟩
      go_wp2_with fail
      go_ret
      exact ⟨rfl, HB1.out.trans (hb2.mono HB1.out.size)⟩
    | true =>
      have hf2 := hf
      unfold fineB permB at hf2
      rw [Bool.and_eq_true, decide_eq_true_iff, decide_eq_true_iff] at hf2
      obtain ⟨p1, p2, p3, p4⟩ := hf2
      obtain ⟨lc, rfl⟩ : ∃ n : Nat, lc = n := ⟨lc.toNat, by omega⟩
      obtain ⟨lp, rfl⟩ : ∃ n : Nat, lp = n := ⟨lp.toNat, by omega⟩
      obtain ⟨pb, rfl⟩ : ∃ n : Nat, pb = n := ⟨pb.toNat, by omega⟩
      obtain ⟨k, hk⟩ : ∃ k : PkS, (⟨A, D, c, lc, lp, pb, nice, chunk, block, check, chain, dict, 0⟩ : PkS) = k := ⟨_, rfl⟩
      have hok : PkO k (OptV (lc : Nat) (lp : Nat) (pb : Nat) nice chunk block check chain dict) := by
        rw [← hk]
        exact ⟨rfl, show lc ≤ 4 by omega, show lp ≤ 4 by omega, show pb ≤ 4 by omega, show lc + lp ≤ 4 by omega, p2, p3, p4⟩
      have hkD : k.D = D := by rw [← hk]
      have hkc : k.chunk = chunk := by rw [← hk]
      have hpk := pack_good k _ W hok (by rw [← hk]; exact HBY.out.1.below HB.out) (fun a ha => by rw [← hk] at ha; exact Nat.lt_of_lt_of_le (HBY.out.2 a ha) HB.out.size) (by rw [← hk]; exact HCC.out) (by rw [hkD]; omega)
      rw [hkD, show k.A = A by rw [← hk], show k.cD = c by rw [← hk]] at hpk
      obtain ⟨Q, hQ⟩ : ∃ Q, (D.length + chunk.toNat - 1) / chunk.toNat = Q := ⟨_, rfl⟩
      have hlen := packB_len (k := k) (by rw [hkc]; exact p3.1) (Q := Q) (by rw [hkD, hkc]; exact hQ.symm)
      rw [hkD] at hlen
      obtain ⟨L, hL⟩ : ∃ L, (packGo k (partsL k.D.length k.chunk.toNat 0) (none, false)).1 = L := ⟨_, rfl⟩
      have hPB : packB k = L ++ [0] := by unfold packB; rw [hL]
      rw [hPB] at hpk hlen
      obtain ⟨LR, hLR⟩ : ∃ LR, L ++ [0] = LR := ⟨_, rfl⟩
      rw [hLR] at hpk hlen
      have hLRl : LR.length = L.length + 1 := by rw [← hLR]; simp
      have hlast : LR[L.length]'(by omega) = 0 := by
        have e : LR[L.length]? = some 0 := by rw [← hLR]; simp
        rw [List.getElem?_eq_getElem (by omega)] at e
        injection e
      have HPK := Lib.hid hpk
      have HLAST : Hid (LR.length = L.length + 1 ∧ ∃ h : L.length < LR.length, LR[L.length] = 0) := Lib.hid ⟨hLRl, by omega, hlast⟩
      have hQs : Q ≤ 3000 := by
        rw [← hQ]
        refine Nat.le_trans (Nat.div_le_div_right (Nat.le_of_eq (show D.length + chunk.toNat - 1 = D.length + (chunk.toNat - 1) by omega))) ?_
        rw [Nat.div_le_iff_le_mul_add_pred (by omega)]
        have : 1 * 3000 ≤ chunk.toNat * 3000 := Nat.mul_le_mul_right _ (by omega)
        omega
      have hQi : (Q : Int) ≤ 3000 := by omega
      have hq1 : ((D.length : Int) + chunk - 1) / chunk = (Q : Int) := by
        rw [← hQ, Int.natCast_ediv]; congr 1 <;> omega
      have hq2 : ((D.length : Int) + chunk - 1).tdiv chunk = (Q : Int) := by
        rw [Int.tdiv_eq_ediv_of_nonneg (by omega)]; exact hq1
      have hch1 : 1 ≤ chunk ∧ chunk ≤ 65536 := p3
      have hcz : (chunk == 0) = false := by rw [beq_eq_false_iff_ne]; omega
      have hlei : (LR.length : Int) ≤ (D.length : Int) + 3 * (Q : Int) + 1 := by omega
      have hle1 : (1 : Int) ≤ (LR.length : Int) := by omega
      clear hf p1 p2 p3 p4 hk hok hkD hkc hpk hQ hlen hL hPB hLR hLRl hlast hQs
      obtain ⟨hch1, hch2⟩ := hch1
      go_enter Try.func3, Try.ntmps3
      go_upto_region 1 with fail
      rw [HW.out]
      go_wp2_with fail
      refine HPK.out.mono ?_
      rintro e w1 ⟨v1, rfl, ho1, hb1⟩
      obtain ⟨A1, cc1, rfl, hcc, hcm, hB1⟩ := ho1.read
      obtain ⟨b1, off1, rfl, _, hat⟩ := hB1.addr (by omega)
      obtain ⟨hLl, hL2, hz⟩ := HLAST.out
      have hca := hat L.length hL2
      rw [hz] at hca
      clear c0 c1 c2 c3 c4 c5 c6 c7 c8
      obtain ⟨_, _, _, _, c4, _, _, _, _⟩ := HCE.out w1 hb1
      have HB1 := Lib.hid (HB.out.trans (hb1.mono HB.out.size))
      go_wp2_with fail
      refine (HKN.out w1).mono ?_
      rintro e w2 ⟨rfl, hb2⟩
      have HB2 := Lib.hid (HB1.out.trans (hb2.mono HB1.out.size))
      clear hb2
      go_wp2_with fail
      go_ret
      exact ⟨rfl, HB2.out⟩
end Go.Proofs.Ytklkboplkobhgaa
