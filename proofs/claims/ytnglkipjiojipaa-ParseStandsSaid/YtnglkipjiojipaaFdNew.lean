/- The finder's New. -/
import Derived.Test.YtnglkipjiojipaaFdPairs
import Derived.Test.YtnglkipjiojipaaFdBefore
import Derived.Test.YtnglkipjiojipaaFdClone
import Derived.Test.YtnglkipjiojipaaFdSame4
namespace Go.Proofs.Ytnglkipjiojipaa
open Go.RowKit Go.Maps

/-- A finder that is ready. -/
structure Ready (w : World) (F : Nat) (A : Option Addr) (c : Nat) (d : List UInt8) (dict nice : Int) (mp B : Nat) : Prop where
  at_ : FinderAt w F A c d dict nice mp (.slice (some ⟨B, 0, none⟩) (d.length - 3) (d.length - 3))
  pairs : PairsAt w mp d (d.length - 1)
  fours : w.heap[B]? = some (.cells (prevs d (d.length - 3)).toArray 21 (0, 0))
theorem Ready.below {w w' : World} {F : Nat} {A : Option Addr} {c : Nat} {d : List UInt8} {dict nice : Int} {mp B : Nat} (h : Ready w F A c d dict nice mp B) (hb : Below w.heap.size w w') : Ready w' F A c d dict nice mp B :=
  ⟨h.at_.below hb, h.pairs.below hb, (hb.block _ (Array.getElem?_eq_some_iff.1 h.fours).1).trans h.fours⟩
def NewDone (d : List UInt8) (dict nice : Int) (w : World) (e : Ending) (w' : World) : Prop := ∃ (Fp : Nat) (A : Option Addr) (c mp B : Nat), e = .returned (.tuple #[PF Fp, .int .i64 0]) ∧ Ready w' Fp A c d dict nice mp B ∧ Below w.heap.size w w'
set_option maxRecDepth 100000 in
theorem new_bad (v : Value) (dict nice : Int) (w : World) (h : dict < 1 ∨ nice < 2 ∨ 273 < nice) :
    Calls Try.prog 5 #[v, .int .i64 dict, .int .i64 nice] w fun e w' => e = .returned (.tuple #[.pointer none, .int .i64 1]) ∧ w = w' := by
  by_cases h1 : dict < 1
  · go_enter Try.func5, Try.ntmps5
    go_wp2_with fail
    go_ret2
    exact ⟨rfl, rfl⟩
  · by_cases h2 : nice < 2
    · go_enter Try.func5, Try.ntmps5
      go_wp2_with fail
      go_ret2
      exact ⟨rfl, rfl⟩
    · have h3 : 273 < nice := by omega
      go_enter Try.func5, Try.ntmps5
      go_wp2_with fail
      go_ret2
      exact ⟨rfl, rfl⟩
set_option maxRecDepth 100000 in
set_option maxHeartbeats 2000000 in
theorem New_any (A : Option Addr) (d : List UInt8) (c : Nat) (dict nice : Int) (w : World) (hB : Bytes w A d) (hc : d.length ≤ c) (hl : d.length ≤ 100000) (h1 : ¬ dict < 1) (h2 : ¬ nice < 2) (h3 : ¬ 273 < nice) :
    Calls Try.prog 5 #[.slice A d.length c, .int .i64 dict, .int .i64 nice] w (NewDone d dict nice w) := by
  have hci : (d.length : Int) ≤ (c : Int) := by omega
  have hli : (d.length : Int) ≤ 100000 := by omega
  have HCL := Lib.hid (clone_any A d c w hB hc hl)
  have HL := Lib.hid hl
  clear hB hc hl
  go_enter Try.func5, Try.ntmps5
  go_wp2_with fail
  refine HCL.out.mono ?_
  rintro e w1 ⟨v, rfl, hown, hb1⟩
  obtain ⟨A', c', rfl, hc', hcm, hB'⟩ := hown.read
  have HB1 := Lib.hid hb1
  have HBY := Lib.hid hB'
  have HC' := Lib.hid hc'
  obtain ⟨W2, hW2⟩ : ∃ W2, w1.alloc (.cells #[.slice A' d.length c', .int .i64 dict, .int .i64 nice, .map none, .slice none 0 0] 46) = W2 := ⟨_, rfl⟩
  have hrow2 : W2.heap[w1.heap.size]? = some (.cells [.slice A' d.length c', .int .i64 dict, .int .i64 nice, .map none, .slice none 0 0].toArray 46 (0, 0)) := by rw [← hW2]; exact heap_alloc_last _ _
  have hb2 : Below w1.heap.size w1 W2 := by rw [← hW2]; exact (Below.refl _ _).alloc (Nat.le_refl _) _
  have hci' : (d.length : Int) ≤ (c' : Int) := by omega
  have HPP := Lib.hid (pairPlaces_any A' d c' (d.length - 1) W2 (hB'.below hb2) hc' HL.out rfl)
  have HW2 := Lib.hid hW2
  have HROW2 := Lib.hid hrow2
  have HB2 := Lib.hid hb2
  have f20 : W2.cell? ⟨w1.heap.size, 0, none⟩ = some (.slice A' d.length c') := by rw [cell_of_row W2 _ _ _ _ _ hrow2]; rfl
  clear hown hb1 hB' hc' hcm hW2 hrow2 hb2
  go_wp2_with fail
  rw [HW2.out]
  have hlt2 : Hid (w1.heap.size < W2.heap.size) := Lib.hid (Array.getElem?_eq_some_iff.1 HROW2.out).1
  clear f20
  refine HPP.out.mono ?_
  rintro e W3 ⟨rfl, hpr, hb3⟩
  have hrow3 := (hb3.block _ hlt2.out).trans HROW2.out
  have f30 : W3.frozen? ⟨w1.heap.size, 3, none⟩ = false := frozen_of_row _ _ _ _ _ hrow3
  obtain ⟨W4, hW4⟩ : ∃ W4, W3.setCell ⟨w1.heap.size, 3, none⟩ (.map (some W2.heap.size)) = W4 := ⟨_, rfl⟩
  have hrow4 := heap_set hrow3 3 (.map (some W2.heap.size))
  rw [hW4] at hrow4
  have hpr4 : PairsAt W4 W2.heap.size d (d.length - 1) := by rw [← hW4]; exact hpr.set _ _ hlt2.out
  have hb4 : Below w1.heap.size w1 W4 := by rw [← hW4]; exact (HB2.out.trans (hb3.mono (Nat.le_of_lt hlt2.out))).setCell (p := ⟨w1.heap.size, 3, none⟩) (Nat.le_refl _) _
  have f40 : W4.cell? ⟨w1.heap.size, 0, none⟩ = some (.slice A' d.length c') := by rw [cell_of_row W4 _ _ _ _ _ hrow4]; rfl
  have f3d : W3.cell? ⟨w1.heap.size, 3, none⟩ = some (.map none) := by rw [cell_of_row W3 _ _ _ _ _ hrow3]; rfl
  have f3c : W3.cell? ⟨w1.heap.size, 0, none⟩ = some (.slice A' d.length c') := by rw [cell_of_row W3 _ _ _ _ _ hrow3]; rfl
  have HSF := Lib.hid (sameFour_any A' d c' (d.length - 3) W4 (HBY.out.below hb4) HC'.out HL.out rfl)
  have HW4 := Lib.hid hW4
  have HROW4 := Lib.hid hrow4
  have HB4 := Lib.hid hb4
  have HPR4 := Lib.hid hpr4
  have h24 : Hid (W2.heap.size < W4.heap.size) := Lib.hid hpr4.lt
  clear hW4 hrow4 hb4 hpr4 hrow3 hpr hb3
  go_wp2_with fail
  rw [HW4.out]
  refine HSF.out.mono ?_
  rintro e W5 ⟨rfl, hfr, hb5⟩
  have hlt4 : w1.heap.size < W4.heap.size := (Array.getElem?_eq_some_iff.1 HROW4.out).1
  have hrow5 := (hb5.block _ hlt4).trans HROW4.out
  have f50 : W5.frozen? ⟨w1.heap.size, 4, none⟩ = false := frozen_of_row _ _ _ _ _ hrow5
  have f5d : W5.cell? ⟨w1.heap.size, 4, none⟩ = some (.slice none 0 0) := by rw [cell_of_row W5 _ _ _ _ _ hrow5]; rfl
  obtain ⟨W6, hW6⟩ : ∃ W6, W5.setCell ⟨w1.heap.size, 4, none⟩ (.slice (some ⟨W4.heap.size + 1, 0, none⟩) (d.length - 3 : Nat) (d.length - 3 : Nat)) = W6 := ⟨_, rfl⟩
  have hrow6 := heap_set hrow5 4 (.slice (some ⟨W4.heap.size + 1, 0, none⟩) (d.length - 3 : Nat) (d.length - 3 : Nat))
  rw [hW6] at hrow6
  have hb6 : Below w1.heap.size w1 W6 := by rw [← hW6]; exact (HB4.out.trans (hb5.mono (Nat.le_of_lt hlt4))).setCell (p := ⟨w1.heap.size, 4, none⟩) (Nat.le_refl _) _
  have hR : Ready W6 w1.heap.size A' c' d dict nice W2.heap.size (W4.heap.size + 1) := by
    refine ⟨⟨hrow6, HBY.out.below hb6, HC'.out, HL.out⟩, ?_, ?_⟩
    · rw [← hW6]; exact (HPR4.out.below hb5).set _ _ hlt2.out
    · rw [← hW6]; exact (heap_setCell_other _ _ _ _ (by show W4.heap.size + 1 ≠ w1.heap.size; omega)).trans hfr
  have HR := Lib.hid hR
  have HW6 := Lib.hid hW6
  have HB6 : Hid (Below w.heap.size w W6) := Lib.hid (HB1.out.trans (hb6.mono HB1.out.size))
  clear hW6 hrow6 hb6 hR hrow5 hfr hb5
  go_wp2_with fail
  rw [HW6.out]
  go_ret2
  exact ⟨_, _, _, _, _, rfl, HR.out, HB6.out⟩
end Go.Proofs.Ytnglkipjiojipaa
