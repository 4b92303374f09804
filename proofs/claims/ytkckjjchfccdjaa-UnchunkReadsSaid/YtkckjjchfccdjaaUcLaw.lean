/- The contract of the law UnchunkReads. -/
import Derived.Test.YtkckjjchfccdjaaMg21
import Derived.Test.YtkckjjchfccdjaaMg29
namespace Go.Proofs.Ytkckjjchfccdjaa
set_option maxRecDepth 100000
open Go.RowKit

theorem six_new (w : World) : Bytes (w.alloc (.cells #[.int .u8 1, .int .u8 0, .int .u8 0, .int .u8 7, .int .u8 0, .int .u8 9] 5 (6, 7))) (some ⟨w.heap.size, 0, none⟩) [1, 0, 0, 7, 0, 9] := by
  refine .inr ⟨_, _, rfl, by simp, fun k hk => ?_⟩
  rw [cell_of_row _ _ _ _ _ _ (heap_alloc_last _ _), Nat.zero_add]
  have hk9 : k < 6 := by simpa using hk
  match k, hk9 with
  | 0, _ | 1, _ | 2, _ | 3, _ | 4, _ | 5, _ => rfl
theorem one_new (w : World) : Bytes (w.alloc (.cells #[.int .u8 2] 5)) (some ⟨w.heap.size, 0, none⟩) [2] := by
  refine .inr ⟨_, _, rfl, by simp, fun k hk => ?_⟩
  rw [cell_of_row _ _ _ _ _ _ (heap_alloc_last _ _), Nat.zero_add]
  have hk9 : k < 1 := by simpa using hk
  match k, hk9 with
  | 0, _ => rfl
set_option maxHeartbeats 4000000 in
theorem ucknows_any (w : World) : Calls Try.prog 5 #[] w (Holds w) := by
  obtain ⟨W1, hW1⟩ : ∃ W, w.alloc (.cells #[.int .u8 1, .int .u8 0, .int .u8 0, .int .u8 7, .int .u8 0, .int .u8 9] 5 (6, 7)) = W := ⟨_, rfl⟩
  have hb1 : Below w.heap.size w W1 := by rw [← hW1]; exact (Below.refl _ _).alloc (Nat.le_refl _) _
  have hs1 : w.heap.size < W1.heap.size := by rw [← hW1]; simp
  have hB1 : Bytes W1 (some ⟨w.heap.size, 0, none⟩) [1, 0, 0, 7, 0, 9] := by rw [← hW1]; exact six_new w
  have h1 := ucread_any (some ⟨w.heap.size, 0, none⟩) [1, 0, 0, 7, 0, 9] 6 1 W1 hB1 (fun a ha => by injection ha with ha; rw [← ha]; exact hs1) (by decide) (by decide) (by decide) (by decide) (by decide) (fuel := 7) (by decide) (unchunk_short0 (by decide) 7)
  rw [unchunk_one] at h1
  have H1 : Hid (Calls Try.prog 6 #[.slice (some ⟨w.heap.size, 0, none⟩) 6 6, .int .i64 1] W1 (UcDone W1 ([7], 5, 0))) := Lib.hid h1
  have HW1 := Lib.hid hW1
  have HB1 := Lib.hid hb1
  clear hW1 hb1 hs1 hB1 h1
  have kc := fun (w : World) (C : Array Value) (n c : Nat) => Lib.run_convert_bytes_const (P := Try.prog) w 22 5 C n c Try.underlying22 Try.underlying5
  go_enter Try.func5, Try.ntmps5
  go_wp2_with fail
  rw [HW1.out]
  clear kc
  refine H1.out.mono ?_
  rintro e w2 ⟨A2, c2, rfl, hc2, hB2, hb2⟩
  have g2 := HB1.out.trans (hb2.mono HB1.out.size)
  have HG2 := Lib.hid g2
  have HB2 := Lib.hid hB2
  have h3 := ucread_any none [] 0 1 w2 .nil (fun a ha => by cases ha) (by decide) (by decide) (by decide) (by decide) (by decide) (fuel := 1) (by decide) (unchunk_short0 (by decide) 1)
  rw [unchunk_two] at h3
  have H3 : Hid (Calls Try.prog 6 #[.slice none 0 0, .int .i64 1] w2 (UcDone w2 ([], 0, 2))) := Lib.hid h3
  clear hc2 hB2 hb2 g2 h3
  go_wp2_with fail
  refine H3.out.mono ?_
  rintro e w3 ⟨A3, c3, rfl, hc3, _, hb3⟩
  obtain ⟨W4, hW4⟩ : ∃ W, w3.alloc (.cells #[.int .u8 2] 5) = W := ⟨_, rfl⟩
  have hb4 : Below w3.heap.size w3 W4 := by rw [← hW4]; exact (Below.refl _ _).alloc (Nat.le_refl _) _
  have hs4 : w3.heap.size < W4.heap.size := by rw [← hW4]; simp
  have hB4 : Bytes W4 (some ⟨w3.heap.size, 0, none⟩) [2] := by rw [← hW4]; exact one_new w3
  have h5 := ucread_any (some ⟨w3.heap.size, 0, none⟩) [2] 1 1 W4 hB4 (fun a ha => by injection ha with ha; rw [← ha]; exact hs4) (by decide) (by decide) (by decide) (by decide) (by decide) (fuel := 2) (by decide) (unchunk_short0 (by decide) 2)
  rw [unchunk_three] at h5
  have H5 : Hid (Calls Try.prog 6 #[.slice (some ⟨w3.heap.size, 0, none⟩) 1 1, .int .i64 1] W4 (UcDone W4 ([], 0, 6))) := Lib.hid h5
  have HW4 := Lib.hid hW4
  have HB24 := Lib.hid (hb3.trans (hb4.mono hb3.size))
  clear hc3 hb3 hW4 hb4 hs4 hB4 h5
  go_wp2_with fail
  rw [HW4.out]
  refine H5.out.mono ?_
  rintro e w5 ⟨A5, c5, rfl, hc5, _, hb5⟩
  have hb25 := HB24.out.trans (hb5.mono HB24.out.size)
  have hs : (convert 22 9 (.slice A2 1 c2)).run Try.prog w5 = .ok (.string ⟨#[7]⟩) w5 := run_str (HB2.out.below hb25) c2
  have HFIN := Lib.hid (HG2.out.trans (hb25.mono HG2.out.size))
  clear hb5 hb25 hc5
  go_wp2_with fail
  go_ret
  exact ⟨rfl, HFIN.out⟩
set_option maxHeartbeats 4000000 in
theorem ucreads_law (A : Option Addr) (B : List UInt8) (c : Nat) (dict : Int) (w : World) (hB : Bytes w A B ∧ ∀ a, A = some a → a.block < w.heap.size) (hc : B.length ≤ c) (hm : c ≤ 9223372036854775807) (hd1 : -9223372036854775808 ≤ dict) (hd2 : dict ≤ 9223372036854775807) :
    Calls Try.prog 3 #[.slice A B.length c, .int .i64 dict] w (Holds w) := by
  have hmi : (B.length : Int) ≤ 9223372036854775807 := by omega
  by_cases h1 : (600 : Int) < (B.length : Int)
  · clear hB hc hm
    go_enter Try.func3, Try.ntmps3
    go_wp2_with fail
    refine (ucknows_any _).mono ?_
    rintro e w' ⟨rfl, hb⟩
    go_wp2_with fail
    go_ret
    exact ⟨rfl, hb⟩
  have e1 : decide ((600 : Int) < (B.length : Int)) = false := decide_eq_false h1
  by_cases h2 : dict < 1
  · have H2 := Lib.hid (ucread_small A B c dict w h2)
    have e2 : decide (dict < 1) = true := decide_eq_true h2
    clear hB hc hm h1
    go_enter Try.func3, Try.ntmps3
    go_wp2_with fail
    refine H2.out.mono ?_
    rintro e w1 ⟨A1, c1, rfl, _, _, hb1⟩
    have HB1 := Lib.hid hb1
    clear hb1
    go_wp2_with fail
    refine (ucknows_any _).mono ?_
    rintro e w2 ⟨rfl, hb2⟩
    have HFIN := Lib.hid (HB1.out.trans (hb2.mono HB1.out.size))
    clear hb2
    go_wp2_with fail
    go_ret
    exact ⟨rfl, HFIN.out⟩
  have e2 : decide (dict < 1) = false := decide_eq_false h2
  by_cases h3 : 67108864 < dict
  · have e3 : decide (67108864 < dict) = true := decide_eq_true h3
    clear hB hc hm h1 h2
    go_enter Try.func3, Try.ntmps3
    go_wp2_with fail
    refine (ucknows_any _).mono ?_
    rintro e w' ⟨rfl, hb⟩
    go_wp2_with fail
    go_ret
    exact ⟨rfl, hb⟩
  have e3 : decide (67108864 < dict) = false := decide_eq_false h3
  have hl6 : B.length ≤ 600 := by omega
  obtain ⟨W1, hW1⟩ : ∃ W, w.alloc (.cells #[] 5) = W := ⟨_, rfl⟩
  have hb1 : Below w.heap.size w W1 := by rw [← hW1]; exact (Below.refl _ _).alloc (Nat.le_refl _) _
  have ho1 : Own w.heap.size W1 (.slice (some ⟨w.heap.size, 0, none⟩) 0 0) [] := by rw [← hW1]; exact empty_own w
  have HW1 := Lib.hid hW1
  have H1 := Lib.hid (And.intro hb1 ho1)
  have HB := Lib.hid hB
  have HC := Lib.hid (And.intro hc (And.intro hm hl6))
  have HD := Lib.hid (show 1 ≤ dict ∧ dict ≤ 9223372036854775807 by omega)
  have hb6 : (B.length : Int) ≤ 600 := by omega
  obtain ⟨RES, hRES⟩ : ∃ R, unchunkAll B dict 601 0 ck0 = R := ⟨_, rfl⟩
  have HRES := Lib.hid hRES
  clear hB hc hm h1 h2 h3 hl6 hW1 hb1 ho1 hRES
  go_enter Try.func3, Try.ntmps3
  go_upto_region 9 with (at_builtin; rw [HW1.out]; refine wpList_append_bytes rfl (.tmp 36) (.tmp 37) rfl w.heap.size W1 _ [] rfl H1.out.2 A B c rfl (HB.out.1.below H1.out.1) (by have := HC.out; simp; omega) H1.out.1.size ?_; intro v2 w2 ho2 hg2; have H2 := Lib.hid (And.intro (show Own w.heap.size w2 v2 B from ho2) (below_grown H1.out.1 hg2 H1.out.1.size (fun g e => (H1.out.2.from_base g e).1))); clear ho2 hg2)
  obtain ⟨A2, c2, rfl, hc2, hm2, hB2⟩ := H2.out.1.read
  have hA2 : ∀ a, A2 = some a → a.block < w2.heap.size := fun a ha => (H2.out.1.from_base a.block (by rw [ha]; rfl)).2
  have h3 := ucread_any A2 B c2 dict w2 hB2 hA2 hc2 hm2 (by have := HC.out; omega) HD.out.1 HD.out.2 (fuel := 601) (by have := HC.out; omega) (unchunk_short0 (by have := HC.out; omega) 601)
  rw [HRES.out] at h3
  have H3 := Lib.hid h3
  have HB2 := Lib.hid hB2
  clear hc2 hm2 hB2 hA2 h3
  go_wp2_with fail
  refine H3.out.mono ?_
  rintro e w3 ⟨A3, c3, rfl, hc3, hB3, hb3⟩
  have g3 := H2.out.2.trans (hb3.mono H2.out.2.size)
  have h4 := urread_any A B c dict w3 (HB.out.1.below g3) (fun a ha => Nat.lt_of_lt_of_le (HB.out.2 a ha) g3.size) HC.out.1 HC.out.2.1 (by have := HC.out; omega) HD.out.1 HD.out.2 (fuel := 601) (by have := HC.out; omega) (unchunk_short0 (by have := HC.out; omega) 601)
  rw [HRES.out] at h4
  have H4 := Lib.hid h4
  have HG3 := Lib.hid (And.intro g3 (And.intro hb3 hB3))
  clear hc3 hB3 hb3 g3 h4
  go_wp2_with fail
  refine H4.out.mono ?_
  rintro e w4 ⟨A4, c4, rfl, hc4, hB4, hb4⟩
  have g4 := HG3.out.1.trans (hb4.mono HG3.out.1.size)
  have k1 := run_str (HB2.out.below (HG3.out.2.1.trans (hb4.mono HG3.out.2.1.size))) c2
  have k2 := run_str (HB.out.1.below g4) c
  have k3 := run_str (HG3.out.2.2.below hb4) c3
  have k4 := run_str hB4 c4
  have HG4 := Lib.hid g4
  clear hc4 hB4 hb4 g4
  go_wp2_with fail
  refine (ucknows_any _).mono ?_
  rintro e w5 ⟨rfl, hb5⟩
  have HFIN := Lib.hid (HG4.out.trans (hb5.mono HG4.out.size))
  clear hb5
  go_wp2_with fail
  go_ret
  exact ⟨rfl, HFIN.out⟩
end Go.Proofs.Ytkckjjchfccdjaa
