/- Chunks: the rows of the document's examples. -/
import Derived.Test.YtklkboplkobhgaaGreatChkPackG
namespace Go.Proofs.YtklkboplkobhgaaGreat
set_option maxRecDepth 100000
open Go.RowKit

abbrev plainO : Value := OptV 3 0 2 64 65536 65536 1 (.slice none 0 0) 4096
theorem plain_opts (w : World) : Calls Tryz.prog 9 #[] w fun e w' => e = .returned plainO ∧ Below w.heap.size w w' := by
  go_enter Tryz.func9, Tryz.ntmps9
  go_wp2_with fail
  refine bodyPost_ret (v := plainO) (by simp [results, Tryz.results9, go_sem]) rfl ⟨rfl, ?_⟩
  exact (Below.refl _ _).alloc (Nat.le_refl _) _
/-- The options of the rows. -/
def exK (A : Option Addr) (D : List UInt8) (cD : Nat) : PkS := ⟨A, D, cD, 3, 0, 2, 64, 65536, 65536, 1, .slice none 0 0, 4096, 0⟩
theorem exK_ok (A : Option Addr) (D : List UInt8) (cD : Nat) : PkO (exK A D cD) plainO := ⟨rfl, show 3 ≤ 4 by decide, show 0 ≤ 4 by decide, show 2 ≤ 4 by decide, show 3 + 0 ≤ 4 by decide, show (2 : Int) ≤ 64 ∧ (64 : Int) ≤ 273 by decide, show (1 : Int) ≤ 65536 ∧ (65536 : Int) ≤ 65536 by decide, show 4096 ≤ 4096 ∧ 4096 ≤ 67108864 by decide⟩
theorem exK_nil (A : Option Addr) (cD : Nat) : packB (exK A [] cD) = [0] := rfl
theorem code_len (k : PkS) (a b : Nat) (s : Nat × R4 × (Nat → Nat)) : 5 ≤ (codeOf k a b s).1.length := by
  show 5 ≤ (Rc.be (5 + _) _).length
  rw [Rc.be_length]; omega
theorem exK_seven (A : Option Addr) (cD : Nat) : packB (exK A [7] cD) = [1, 0, 0, 7, 0] := by
  have hp : partsL 1 65536 0 = [(0, 1)] := rfl
  have hch : chunkOf (exK A [7] cD) 0 1 none false = (storeOf [7] 0 1, none, false) := by
    have h5 := code_len (exK A [7] cD) 0 1 (codOf none)
    have hc : 1 - 0 + 3 ≤ (packedOf (exK A [7] cD) 0 1 none false (codeOf (exK A [7] cD) 0 1 (codOf none)).1).length := by
      unfold packedOf
      rw [List.length_append]
      omega
    show (if 1 - 0 + 3 ≤ (packedOf (exK A [7] cD) 0 1 none false (codeOf (exK A [7] cD) 0 1 (codOf none)).1).length ∨ 65536 < (codeOf (exK A [7] cD) 0 1 (codOf none)).1.length then (storeOf [7] 0 1, none, false) else (packedOf (exK A [7] cD) 0 1 none false (codeOf (exK A [7] cD) 0 1 (codOf none)).1, some (codeOf (exK A [7] cD) 0 1 (codOf none)).2, true)) = _
    exact if_pos (Or.inl hc)
  show (packGo (exK A [7] cD) (partsL 1 65536 0) (none, false)).1 ++ [0] = _
  rw [hp]
  show ((chunkOf (exK A [7] cD) 0 1 none false).1 ++ []) ++ [0] = _
  rw [hch]
  rfl
set_option maxRecDepth 100000 in
set_option maxHeartbeats 2000000 in
theorem knows_any (w : World) : Calls Tryz.prog 4 #[] w (Holds w) := by
  have HP := Lib.hid (fun (W : World) => plain_opts W)
  have H1 := Lib.hid (fun (W : World) => pack_good (exK none [] 0) plainO W (exK_ok _ _ _) .nil (fun a h => by cases h) (Nat.le_refl _) (show 0 ≤ 100000 by decide))
  have H2 := Lib.hid (fun (W : World) (b : Nat) (hB : Bytes W (some ⟨b, 0, none⟩) [7]) (hb : b < W.heap.size) => pack_good (exK (some ⟨b, 0, none⟩) [7] 1) plainO W (exK_ok _ _ _) hB (fun a h => by injection h with h; subst h; exact hb) (Nat.le_refl _) (show 1 ≤ 100000 by decide))
  have H3 := Lib.hid (fun (W : World) => pack_bad (.slice none 0 0) 0 0 0 0 0 0 0 (.slice none 0 0) 0 W (by decide))
  rw [exK_nil] at H1
  simp only [exK_seven] at H2
  go_enter Tryz.func4, Tryz.ntmps4
  go_wp2_with fail
  refine (HP.out w).mono ?_
  rintro e w1 ⟨rfl, hb1⟩
  go_wp2_with fail
  refine (H1.out w1).mono ?_
  rintro e w2 ⟨v2, rfl, ho2, hb2⟩
  obtain ⟨A2, c2, rfl, _, _, hB2⟩ := ho2.read
  have HB2 := Lib.hid (hb1.trans (hb2.mono hb1.size))
  have HBY2 := Lib.hid hB2
  clear hb1 hb2 ho2 hB2
  obtain ⟨W3, hW3⟩ : ∃ W3, w2.alloc (.cells #[.int .u8 7] 5) = W3 := ⟨_, rfl⟩
  have hX3 : Bytes W3 (some ⟨w2.heap.size, 0, none⟩) [7] := by rw [← hW3]; exact Bytes.one w2 7
  have hb3 : Below w2.heap.size w2 W3 := by rw [← hW3]; exact (Below.refl _ _).alloc (Nat.le_refl _) _
  have hl3 : w2.heap.size < W3.heap.size := by rw [← hW3]; simp
  have HW3 := Lib.hid hW3
  have HX3 := Lib.hid hX3
  have HB3 := Lib.hid hb3
  have HL3 := Lib.hid hl3
  clear hW3 hX3 hb3 hl3
  go_wp2_with fail
  rw [HW3.out]
  refine (HP.out W3).mono ?_
  rintro e w4 ⟨rfl, hb4⟩
  have HB4 := Lib.hid hb4
  clear hb4
  go_wp2_with fail
  refine (H2.out w4 w2.heap.size (HX3.out.below HB4.out) (Nat.lt_of_lt_of_le HL3.out HB4.out.size)).mono ?_
  rintro e w5 ⟨v5, rfl, ho5, hb5⟩
  obtain ⟨A5, c5, rfl, _, _, hB5⟩ := ho5.read
  have HB25 : Hid (Below w2.heap.size w2 w5) := Lib.hid ((HB3.out.trans (HB4.out.mono HB3.out.size)).trans (hb5.mono (Nat.le_trans HB3.out.size HB4.out.size)))
  have HBY5 := Lib.hid hB5
  clear ho5 hb5 hB5
  go_wp2_with fail
  refine (H3.out w5).mono ?_
  rintro e w6 ⟨rfl, hb6⟩
  have k2 : (convert 22 9 (.slice A2 1 c2)).run Tryz.prog w6 = .ok (.string ⟨#[0]⟩) w6 := run_str ((HBY2.out.below HB25.out).below hb6) c2
  have k5 : (convert 22 9 (.slice A5 5 c5)).run Tryz.prog w6 = .ok (.string ⟨#[1, 0, 0, 7, 0]⟩) w6 := run_str (HBY5.out.below hb6) c5
  have HB6 := Lib.hid (HB2.out.trans ((HB25.out.trans (hb6.mono HB25.out.size)).mono HB2.out.size))
  clear hb6
  go_wp2_with fail
  go_ret
  exact ⟨rfl, HB6.out⟩
end Go.Proofs.YtklkboplkobhgaaGreat
