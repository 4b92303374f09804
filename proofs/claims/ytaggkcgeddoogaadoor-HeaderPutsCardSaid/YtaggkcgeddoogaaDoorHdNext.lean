/- header.Get's closures: the next number; the next bytes. -/
import Derived.Test.YtaggkcgeddoogaaDoorHdGetM
import Derived.Deep.CutBlock
namespace Go.Proofs.YtaggkcgeddoogaaDoor
open Go.RowKit

/-- No block is made, none but one is changed. -/
def KeepBut (bo : Nat) (w w' : World) : Prop := w'.heap.size = w.heap.size ∧ ∀ g, g ≠ bo → w'.heap[g]? = w.heap[g]?
theorem KeepBut.refl (bo : Nat) (w : World) : KeepBut bo w w := ⟨rfl, fun _ _ => rfl⟩
theorem KeepBut.set (bo : Nat) (w : World) (u : Value) : KeepBut bo w (w.setCell ⟨bo, 0, none⟩ u) := ⟨by simp, fun g hg => heap_setCell_other _ _ _ _ (fun e => hg e)⟩
/-- None of the blocks that there were, but one, is changed. -/
def KeepOld (bo : Nat) (w w' : World) : Prop := w.heap.size ≤ w'.heap.size ∧ ∀ g, g < w.heap.size → g ≠ bo → w'.heap[g]? = w.heap[g]?
theorem KeepBut.old {bo : Nat} {w w' : World} (h : KeepBut bo w w') : KeepOld bo w w' := ⟨by rw [h.1]; omega, fun g _ hg => h.2 g hg⟩
theorem Below.old {bo : Nat} {w w' : World} (h : Below w.heap.size w w') : KeepOld bo w w' := ⟨h.size, fun g hg _ => h.block g hg⟩
theorem KeepOld.trans {bo : Nat} {w w' w'' : World} (h : KeepOld bo w w') (k : KeepOld bo w' w'') : KeepOld bo w w'' := ⟨Nat.le_trans h.1 k.1, fun g hg hn => (k.2 g (Nat.lt_of_lt_of_le hg h.1) hn).trans (h.2 g hg hn)⟩
theorem KeepOld.set {bo r i : Nat} {w w' : World} (h : KeepOld bo w w') (hr : w.heap.size ≤ r) (u : Value) : KeepOld bo w (w'.setCell ⟨r, i, none⟩ u) := ⟨by simp; exact h.1, fun g hg hn => (heap_setCell_other _ _ _ _ (fun e => by have e' : g = r := e; omega)).trans (h.2 g hg hn)⟩
def HNextDone (bo : Nat) (l : List UInt8) (w : World) (e : Ending) (w' : World) : Prop :=
  Below bo w w' ∧ KeepBut bo w w' ∧ match nextM l with
  | none => e = .returned (.tuple #[.int .u64 0, .int .i64 4])
  | some (n, l') => e = .returned (.tuple #[.int .u64 (n : Nat), .int .i64 0]) ∧ Rest bo w' l'
set_option maxRecDepth 100000 in
set_option maxHeartbeats 1000000 in
theorem hnext_any (bo : Nat) (l : List UInt8) (w : World) (hR : Rest bo w l) (hl : l.length ≤ 1000000) :
    Calls Tryd.prog 22 #[.pointer (some ⟨bo, 0, none⟩)] w (HNextDone bo l w) := by
  obtain ⟨A, c, hx, hB, hA, hc, hm⟩ := hR
  have hxc := hx.cell
  have hfz := hx.frozen
  have HG := Lib.hid (get_any A l c w hB (by omega))
  have HD := Lib.hid (show HNextDone bo l w = fun e w' => Below bo w w' ∧ KeepBut bo w w' ∧ match nextM l with
    | none => e = .returned (.tuple #[.int .u64 0, .int .i64 4])
    | some (n, l') => e = .returned (.tuple #[.int .u64 (n : Nat), .int .i64 0]) ∧ Rest bo w' l' from rfl)
  cases hn : nextM l with
  | none =>
    rw [hn] at HD
    rcases next_none hn with h | h
    · rw [h] at HG
      rw [HD.out]
      clear HD h hn
      go_enter Tryd.func22, Tryd.ntmps22
      go_wp2_with fail
      refine HG.out.mono ?_
      rintro e w1 ⟨rfl, rfl⟩
      go_wp2_with fail
      go_ret2
      exact ⟨Below.refl _ _, KeepBut.refl _ _, rfl⟩
    · rw [h] at HG
      rw [HD.out]
      clear HD h hn
      go_enter Tryd.func22, Tryd.ntmps22
      go_wp2_with fail
      refine HG.out.mono ?_
      rintro e w1 ⟨rfl, rfl⟩
      go_wp2_with fail
      go_ret2
      exact ⟨Below.refl _ _, KeepBut.refl _ _, rfl⟩
  | some r =>
    obtain ⟨n, l'⟩ := r
    rw [hn] at HD
    obtain ⟨h1, h2, k, h3, h4, h5, rfl⟩ := next_some hn
    rw [h5] at HG
    rw [HD.out]
    have hki : (k : Int) ≤ (l.length : Int) := by omega
    have hci : (l.length : Int) ≤ (c : Int) := by omega
    have hmi : (c : Int) ≤ 9223372036854775807 := by omega
    have HCUT := Lib.hid (hB.cut k)
    have hlt := hx.lt
    have hdl : (l.drop k).length = l.length - k := List.length_drop
    have HDL := Lib.hid hdl
    have HH3 := Lib.hid (And.intro h3 hc)
    have HX := Lib.hid hx
    have HAA := Lib.hid hA
    clear HD hn h5 h2 hdl h1 hA hx
    go_enter Tryd.func22, Tryd.ntmps22
    go_wp2_with fail
    refine HG.out.mono ?_
    rintro e w1 ⟨rfl, rfl⟩
    go_wp2_with fail
    · go_ret2
      exact ⟨Below.setCell (p := ⟨bo, 0, none⟩) (Below.refl _ _) (Nat.le_refl _) _, KeepBut.set _ _ _, rfl, Rest.over HX.out HAA.out (by have := HH3.out; omega)⟩
    · go_ret2
      exact ⟨Below.setCell (p := ⟨bo, 0, none⟩) (Below.refl _ _) (Nat.le_refl _) _, KeepBut.set _ _ _, rfl, Rest.step HX.out hB HAA.out HH3.out.1 HH3.out.2 hm⟩

/-- What take hands back. -/
def HTakeDone (bo n : Nat) (l : List UInt8) (w : World) (e : Ending) (w' : World) : Prop :=
  Below bo w w' ∧ KeepBut bo w w' ∧ ((l.length < n ∧ e = .returned (.tuple #[.slice none 0 0, .int .i64 4])) ∨
    (n ≤ l.length ∧ ∃ A c, e = .returned (.tuple #[.slice A n c, .int .i64 0]) ∧ Bytes w' A (l.take n) ∧ (∀ a, A = some a → a.block < bo) ∧ Rest bo w' (l.drop n)))
set_option maxRecDepth 100000 in
set_option maxHeartbeats 1000000 in
theorem htake_any (bo n : Nat) (l : List UInt8) (w : World) (hR : Rest bo w l) (hl : l.length ≤ 1000000) (hn : n < 9223372036854775808) :
    Calls Tryd.prog 24 #[.int .u64 (n : Nat), .pointer (some ⟨bo, 0, none⟩)] w (HTakeDone bo n l w) := by
  obtain ⟨A, c, hx, hB, hA, hc, hm⟩ := hR
  have hxc := hx.cell
  have hfz := hx.frozen
  have hli : (l.length : Int) ≤ 1000000 := by omega
  have hni : (n : Int) < 9223372036854775808 := by omega
  by_cases h : l.length < n
  · have hi : (l.length : Int) < (n : Int) := by omega
    have HF := Lib.hid h
    clear h
    go_enter Tryd.func24, Tryd.ntmps24
    go_wp2_with fail
    go_ret2
    exact ⟨Below.refl _ _, KeepBut.refl _ _, .inl ⟨HF.out, rfl⟩⟩
  · have hi : (n : Int) ≤ (l.length : Int) := by omega
    have hi2 : ¬ (l.length : Int) < (n : Int) := by omega
    have hci : (l.length : Int) ≤ (c : Int) := by omega
    have hnc : (n : Int) ≤ (c : Int) := by omega
    have hmi : (c : Int) ≤ 9223372036854775807 := by omega
    have hlt := hx.lt
    have hb : ∀ u, Below bo w (w.setCell ⟨bo, 0, none⟩ u) := fun u => Below.setCell (p := ⟨bo, 0, none⟩) (Below.refl _ _) (Nat.le_refl _) _
    have HT := Lib.hid (fun u => (hB.take n).low (hb u) hA)
    have HH3 := Lib.hid (show n ≤ l.length ∧ l.length ≤ c by omega)
    have HX := Lib.hid hx
    have HAA := Lib.hid hA
    have HM := Lib.hid hm
    have hn0 : (0 : Int) ≤ (n : Int) := by omega
    clear h hA hx hb hn hm hc hl
    go_enter Tryd.func24, Tryd.ntmps24
    go_upto_region 5 with fail
    have hR2 : Rest bo (w.setCell ⟨bo, 0, none⟩ (.slice (if c = n then A else A.map fun x => x.add n) (l.length - n) (c - n))) (l.drop n) := by
      split
      · rename_i e
        have h0 : c - n = 0 := by omega
        rw [h0]
        exact Rest.over HX.out HAA.out (by have := HH3.out; omega)
      · exact Rest.step HX.out hB HAA.out HH3.out.1 HH3.out.2 HM.out
    have hb2 : Below bo w (w.setCell ⟨bo, 0, none⟩ (.slice (if c = n then A else A.map fun x => x.add n) (l.length - n) (c - n))) := Below.setCell (p := ⟨bo, 0, none⟩) (Below.refl _ _) (Nat.le_refl _) _
    have hk2 : KeepBut bo w (w.setCell ⟨bo, 0, none⟩ (.slice (if c = n then A else A.map fun x => x.add n) (l.length - n) (c - n))) := KeepBut.set _ _ _
    have ht2 := HT.out (.slice (if c = n then A else A.map fun x => x.add n) (l.length - n) (c - n))
    generalize Value.slice (if c = n then A else A.map fun x => x.add n) (l.length - n) (c - n) = sv at hR2 hb2 ht2 hk2 ⊢
    generalize w.setCell ⟨bo, 0, none⟩ sv = w2 at hR2 hb2 ht2 hk2 ⊢
    clear HT hxc hfz
    go_wp2_with fail
    go_ret2
    exact ⟨hb2, hk2, .inr ⟨HH3.out.1, A, c, rfl, ht2, HAA.out, hR2⟩⟩
end Go.Proofs.YtaggkcgeddoogaaDoor
