/- Chunks: which options are fine; a number in two bytes; the properties. -/
import Derived.Test.YtklkboplkobhgaaGreatMdNewAll
import Derived.Test.YtklkboplkobhgaaGreatRcBytes
namespace Go.Proofs.YtklkboplkobhgaaGreat
set_option maxRecDepth 100000
open Go.RowKit

/-- Options, as values. -/
structure Opt where
  lc : Int
  lp : Int
  pb : Int
  nice : Int
  chunk : Int
  block : Int
  check : Int
  chain : Value
  dict : Nat
abbrev optRow (lc lp pb nice chunk block check : Int) (chain : Value) (dict : Nat) : List Value := [.int .i64 lc, .int .i64 lp, .int .i64 pb, .int .i64 nice, .int .i64 chunk, .int .i64 block, .int .i64 check, chain, .int .u32 (dict : Nat)]
abbrev OptV (lc lp pb nice chunk block check : Int) (chain : Value) (dict : Nat) : Value := .agg #[.int .i64 lc, .int .i64 lp, .int .i64 pb, .int .i64 nice, .int .i64 chunk, .int .i64 block, .int .i64 check, chain, .int .u32 (dict : Nat)]
def fineB (lc lp pb nice chunk : Int) (dict : Nat) : Bool := permB lc lp pb && decide ((2 ≤ nice ∧ nice ≤ 273) ∧ (1 ≤ chunk ∧ chunk ≤ 65536) ∧ 4096 ≤ dict ∧ dict ≤ 67108864)
def inB (n lo hi : Int) : Bool := decide (lo ≤ n ∧ n ≤ hi)
theorem within_any (n lo hi : Int) (w : World) : Calls Tryz.prog 14 #[.int .i64 n, .int .i64 lo, .int .i64 hi] w fun e w' => e = .returned (.bool (inB n lo hi)) ∧ w = w' := by
  by_cases h0 : lo ≤ n
  · have HS : Hid (inB n lo hi = decide (n ≤ hi)) := Lib.hid (by unfold inB; exact decide_eq_decide.2 (by omega))
    rw [HS.out]
    go_enter Tryz.func14, Tryz.ntmps14
    go_wp2_with fail
    go_ret
    exact ⟨rfl, rfl⟩
  · have HS : Hid (inB n lo hi = false) := Lib.hid (by unfold inB; exact decide_eq_false (by omega))
    rw [HS.out]
    go_enter Tryz.func14, Tryz.ntmps14
    go_wp2_with fail
    go_ret
    exact ⟨rfl, rfl⟩
theorem optBox {w W : World} {vs : List Value} {t : TypeId} (h : w.alloc (.cells vs.toArray t) = W) : W.heap[w.heap.size]? = some (.cells vs.toArray t (0, 0)) ∧ Below w.heap.size w W := by
  subst h
  exact ⟨heap_alloc_new w _, (Below.refl _ _).alloc (Nat.le_refl _) _⟩
def BoolDone (b : Bool) (w : World) (e : Ending) (w' : World) : Prop := e = .returned (.bool b) ∧ Below w.heap.size w w'
set_option maxRecDepth 100000 in
set_option maxHeartbeats 2000000 in
theorem fine_any (lc lp pb nice chunk block check : Int) (chain : Value) (dict : Nat) (w : World) :
    Calls Tryz.prog 7 #[OptV lc lp pb nice chunk block check chain dict] w (BoolDone (fineB lc lp pb nice chunk dict) w) := by
  obtain ⟨R, hR⟩ : ∃ R, fineB lc lp pb nice chunk dict = R := ⟨_, rfl⟩
  rw [hR]
  obtain ⟨W, hW⟩ : ∃ W, w.alloc (.cells #[.int .i64 lc, .int .i64 lp, .int .i64 pb, .int .i64 nice, .int .i64 chunk, .int .i64 block, .int .i64 check, chain, .int .u32 (dict : Nat)] 26) = W := ⟨_, rfl⟩
  obtain ⟨hrow, hbW⟩ := optBox (vs := optRow lc lp pb nice chunk block check chain dict) hW
  have HC : Hid (∀ W', Below W.heap.size W W' → W'.cell? ⟨w.heap.size, 0, none⟩ = some (.int .i64 lc) ∧ W'.cell? ⟨w.heap.size, 1, none⟩ = some (.int .i64 lp) ∧ W'.cell? ⟨w.heap.size, 2, none⟩ = some (.int .i64 pb) ∧ W'.cell? ⟨w.heap.size, 3, none⟩ = some (.int .i64 nice) ∧ W'.cell? ⟨w.heap.size, 4, none⟩ = some (.int .i64 chunk) ∧ W'.cell? ⟨w.heap.size, 8, none⟩ = some (.int .u32 (dict : Nat))) := Lib.hid (fun W' hb => by
    have h := (hb.block _ (Array.getElem?_eq_some_iff.1 hrow).1).trans hrow
    refine ⟨?_, ?_, ?_, ?_, ?_, ?_⟩ <;> (rw [cell_of_row W' _ _ _ _ _ h]; rfl))
  obtain ⟨c0, c1, c2, _, _, _⟩ := HC.out W (Below.refl _ _)
  have HW := Lib.hid hW
  have HBW := Lib.hid hbW
  have HR := Lib.hid hR
  have HN := Lib.hid (within_any nice 2 273)
  have HK := Lib.hid (within_any chunk 1 65536)
  clear hrow hW hbW hR
  cases hp : permB lc lp pb with
  | false =>
    have HM := Lib.hid (mnew_bad lc lp pb W hp)
    have HRv : Hid (R = false) := Lib.hid (by rw [← HR.out]; unfold fineB; rw [hp]; rfl)
    clear hp
    go_enter Tryz.func7, Tryz.ntmps7
    go_upto_region 1 with fail
    rw [HW.out]
    go_wp2_with fail
    refine HM.out.mono ?_
    rintro e w1 ⟨rfl, rfl⟩
    go_wp2_with fail
    go_ret
    exact ⟨by rw [HRv.out]; rfl, HBW.out⟩
  | true =>
    have hp' := of_decide_eq_true hp
    obtain ⟨lc, rfl⟩ : ∃ n : Nat, lc = n := ⟨lc.toNat, by omega⟩
    obtain ⟨lp, rfl⟩ : ∃ n : Nat, lp = n := ⟨lp.toNat, by omega⟩
    obtain ⟨pb, rfl⟩ : ∃ n : Nat, pb = n := ⟨pb.toNat, by omega⟩
    have HM := Lib.hid (mnew_good lc lp pb W (by omega) (by omega) (by omega) (by omega))
    have HRv : Hid (R = decide ((2 ≤ nice ∧ nice ≤ 273) ∧ (1 ≤ chunk ∧ chunk ≤ 65536) ∧ 4096 ≤ dict ∧ dict ≤ 67108864)) := Lib.hid (by rw [← HR.out]; unfold fineB; rw [hp]; rfl)
    clear hp hp'
    by_cases h1 : 2 ≤ nice ∧ nice ≤ 273
    case neg =>
      have e1 : inB nice 2 273 = false := decide_eq_false h1
      rw [e1] at HN
      have HRf : Hid (R = false) := Lib.hid (by rw [HRv.out]; exact decide_eq_false (fun h => h1 h.1))
      clear h1 e1
      go_enter Tryz.func7, Tryz.ntmps7
      go_upto_region 1 with fail
      rw [HW.out]
      go_wp2_with fail
      refine HM.out.mono ?_
      rintro e w1 ⟨C, L, rfl, _, hb1, _, _⟩
      obtain ⟨_, _, _, d3, d4, d8⟩ := HC.out w1 hb1
      have HB1 := Lib.hid hb1
      clear hb1 c0 c1 c2
      go_wp2_with fail
      refine (HN.out w1).mono ?_
      rintro e w2 ⟨rfl, rfl⟩
      go_wp2_with fail
      go_ret
      exact ⟨by rw [HRf.out]; rfl, HBW.out.trans (HB1.out.mono HBW.out.size)⟩
    case pos =>
      have e1 : inB nice 2 273 = true := decide_eq_true h1
      rw [e1] at HN
      by_cases h2 : 1 ≤ chunk ∧ chunk ≤ 65536
      case neg =>
        have e2 : inB chunk 1 65536 = false := decide_eq_false h2
        rw [e2] at HK
        have HRf : Hid (R = false) := Lib.hid (by rw [HRv.out]; exact decide_eq_false (fun h => h2 h.2.1))
        clear h1 e1 h2 e2
        go_enter Tryz.func7, Tryz.ntmps7
        go_upto_region 1 with fail
        rw [HW.out]
        go_wp2_with fail
        refine HM.out.mono ?_
        rintro e w1 ⟨C, L, rfl, _, hb1, _, _⟩
        obtain ⟨_, _, _, d3, d4, d8⟩ := HC.out w1 hb1
        have HB1 := Lib.hid hb1
        clear hb1 c0 c1 c2
        go_wp2_with fail
        refine (HN.out w1).mono ?_
        rintro e w2 ⟨rfl, rfl⟩
        go_wp2_with fail
        refine (HK.out w1).mono ?_
        rintro e w2 ⟨rfl, rfl⟩
        go_wp2_with fail
        go_ret
        exact ⟨by rw [HRf.out]; rfl, HBW.out.trans (HB1.out.mono HBW.out.size)⟩
      case pos =>
        have e2 : inB chunk 1 65536 = true := decide_eq_true h2
        rw [e2] at HK
        have HRw : Hid (R = decide (4096 ≤ dict ∧ dict ≤ 67108864)) := Lib.hid (by rw [HRv.out]; exact decide_eq_decide.2 ⟨fun h => h.2.2, fun h => ⟨h1, h2, h⟩⟩)
        clear h1 e1 h2 e2
        by_cases h3 : 4096 ≤ dict
        case neg =>
          have HRf : Hid (R = false) := Lib.hid (by rw [HRw.out]; exact decide_eq_false (fun h => h3 h.1))
          have e3 : ¬ (4096 : Int) ≤ (dict : Int) := by omega
          go_enter Tryz.func7, Tryz.ntmps7
          go_upto_region 1 with fail
          rw [HW.out]
          go_wp2_with fail
          refine HM.out.mono ?_
          rintro e w1 ⟨C, L, rfl, _, hb1, _, _⟩
          obtain ⟨_, _, _, d3, d4, d8⟩ := HC.out w1 hb1
          have HB1 := Lib.hid hb1
          clear hb1 c0 c1 c2
          go_wp2_with fail
          refine (HN.out w1).mono ?_
          rintro e w2 ⟨rfl, rfl⟩
          go_wp2_with fail
          refine (HK.out w1).mono ?_
          rintro e w2 ⟨rfl, rfl⟩
          go_wp2_with fail
          go_ret
          exact ⟨by rw [HRf.out]; rfl, HBW.out.trans (HB1.out.mono HBW.out.size)⟩
        case pos =>
          have e3 : (4096 : Int) ≤ (dict : Int) := by omega
          obtain ⟨q, hq⟩ : ∃ q, decide (dict ≤ 67108864) = q := ⟨_, rfl⟩
          have hq2 : decide ((dict : Int) ≤ 67108864) = q := by rw [← hq]; exact decide_eq_decide.2 (by omega)
          have HRf : Hid (R = q) := Lib.hid (by rw [HRw.out, ← hq]; exact decide_eq_decide.2 (by omega))
          go_enter Tryz.func7, Tryz.ntmps7
          go_upto_region 1 with fail
          rw [HW.out]
          go_wp2_with fail
          refine HM.out.mono ?_
          rintro e w1 ⟨C, L, rfl, _, hb1, _, _⟩
          obtain ⟨_, _, _, d3, d4, d8⟩ := HC.out w1 hb1
          have HB1 := Lib.hid hb1
          clear hb1 c0 c1 c2
          go_wp2_with fail
          refine (HN.out w1).mono ?_
          rintro e w2 ⟨rfl, rfl⟩
          go_wp2_with fail
          refine (HK.out w1).mono ?_
          rintro e w2 ⟨rfl, rfl⟩
          go_wp2_with fail
          go_ret
          exact ⟨by rw [HRf.out]; simp, HBW.out.trans (HB1.out.mono HBW.out.size)⟩
/-- A number in two bytes. -/
def twoB (n : Nat) : List UInt8 := [UInt8.ofNat (n / 256), UInt8.ofNat n]
set_option maxHeartbeats 1000000 in
theorem twoBytes_any (n : Nat) (hn : n ≤ 281474976710656) (w : World) : Calls Tryz.prog 25 #[.int .i64 ((n + 1 : Nat) : Int)] w (GivesB w (twoB n)) := by
  have h1 : (((n + 1 : Nat) : Int)) - 1 = (n : Int) := by omega
  have h2 : wrap64 (n : Int) = (n : Int) := wrap64_of (by omega) (by omega)
  have hni : (n : Int) ≤ 281474976710656 := by omega
  have HO := Lib.hid (fun (v1 v2 : Value) (e1 : v1 = B8 (UInt8.ofNat (n / 256))) (e2 : v2 = B8 (UInt8.ofNat n)) => show Own w.heap.size (w.alloc (.cells #[v1, v2] 5)) (.slice (some ⟨w.heap.size, 0, none⟩) 2 2) (twoB n) by
    subst e1 e2; exact Own.lit w (twoB n) (Nat.le_refl _) (by unfold twoB; simp))
  obtain ⟨k, hk⟩ : ∃ k, ((n + 1 : Nat) : Int) = k := ⟨_, rfl⟩
  rw [hk] at h1 ⊢
  clear hk
  go_enter Tryz.func25, Tryz.ntmps25
  go_wp2_with fail
  go_ret
  refine ⟨_, rfl, HO.out _ _ ?_ ?_, (Below.refl _ _).alloc (Nat.le_refl _) _⟩
  · simp only [B8, IntKind.wrap_u16, UInt8.toNat_ofNat']; congr 1; omega
  · simp only [B8, IntKind.wrap_u16, UInt8.toNat_ofNat']; congr 1; omega
set_option maxHeartbeats 1000000 in
theorem props_any (lc lp pb : Nat) (nice chunk block check : Int) (chain : Value) (dict : Nat) (hlc : lc ≤ 4) (hlp : lp ≤ 4) (hpb : pb ≤ 4) (w : World) :
    Calls Tryz.prog 26 #[OptV lc lp pb nice chunk block check chain dict] w fun e w' => e = .returned (B8 (UInt8.ofNat (lc + 9 * (lp + 5 * pb)))) ∧ Below w.heap.size w w' := by
  obtain ⟨W, hW⟩ : ∃ W, w.alloc (.cells #[.int .i64 (lc : Nat), .int .i64 (lp : Nat), .int .i64 (pb : Nat), .int .i64 nice, .int .i64 chunk, .int .i64 block, .int .i64 check, chain, .int .u32 (dict : Nat)] 26) = W := ⟨_, rfl⟩
  obtain ⟨hrow, hbW⟩ := optBox (vs := optRow lc lp pb nice chunk block check chain dict) hW
  have c0 : W.cell? ⟨w.heap.size, 0, none⟩ = some (.int .i64 (lc : Nat)) := by rw [cell_of_row W _ _ _ _ _ hrow]; rfl
  have c1 : W.cell? ⟨w.heap.size, 1, none⟩ = some (.int .i64 (lp : Nat)) := by rw [cell_of_row W _ _ _ _ _ hrow]; rfl
  have c2 : W.cell? ⟨w.heap.size, 2, none⟩ = some (.int .i64 (pb : Nat)) := by rw [cell_of_row W _ _ _ _ _ hrow]; rfl
  have HW := Lib.hid hW
  have HBW := Lib.hid hbW
  have hi1 : (lc : Int) ≤ 4 := by omega
  have hi2 : (lp : Int) ≤ 4 := by omega
  have hi3 : (pb : Int) ≤ 4 := by omega
  have HE : Hid (Value.int IntKind.u8 ((lc : Int) + 9 * ((lp : Int) + 5 * (pb : Int))) = B8 (UInt8.ofNat (lc + 9 * (lp + 5 * pb)))) := Lib.hid (by
    simp only [B8, UInt8.toNat_ofNat']; congr 1; omega)
  clear hrow hW hbW
  go_enter Tryz.func26, Tryz.ntmps26
  go_upto_region 1 with fail
  rw [HW.out]
  go_wp2_with fail
  go_ret
  exact ⟨congrArg Ending.returned HE.out, HBW.out⟩
end Go.Proofs.YtklkboplkobhgaaGreat
