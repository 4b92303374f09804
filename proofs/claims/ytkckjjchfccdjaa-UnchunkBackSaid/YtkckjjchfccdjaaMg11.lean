/- Several texts in one: CoRead, CoRead2, CoNew. -/
import Derived.Test.YtkckjjchfccdjaaMg8
import Derived.Lib.MinMax
import Derived.Deep.CutBlock
import Derived.Deep.DeepCutAuto
/- The reference's coder: what only reads: Fits, Dist, Plain, Two. -/
namespace Go.Proofs.Ytkckjjchfccdjaa
set_option maxRecDepth 100000
open Go.RowKit

theorem OwnV.apart {t t' : TypeId} {base : Nat} {w : World} {v : Value} {l : List Value} (h : OwnV t base w v l) {C : Nat} {cs : Array Value} {x : Nat × Nat} (hC : w.heap[C]? = some (.cells cs t' x)) (hne : t ≠ t') : v.ownBlock ≠ some C := by
  intro e
  rcases h with ⟨_, ⟨rfl, _⟩ | ⟨g, cap, cur, rfl, _, hg, _⟩⟩
  · cases e
  · injection e with e
    subst e
    rw [hC] at hg
    injection hg with hg
    injection hg with _ hg _
    exact hne hg.symm
abbrev rc4 (r : R4) : List Value := [.int .i64 r.1, .int .i64 r.2.1, .int .i64 r.2.2.1, .int .i64 r.2.2.2]
def rAt (r : R4) (q : Int) : Int := r4 r.1 r.2.1 r.2.2.1 r.2.2.2 q.toNat
/-- A coder of the reference. -/
structure CodAt (w : World) (C base : Nat) (lc lp pb st : Int) (r : R4) (P : List Nat) (vR vP : Value) : Prop where
  box : w.heap[C]? = some (.cells [.int .i64 lc, .int .i64 lp, .int .i64 pb, .int .i64 st, vR, vP].toArray 94 (0, 0))
  reps : OwnV 3 base w vR (rc4 r)
  ps : OwnV 34 base w vP (P.map fun x => .int .u16 (x : Nat))
theorem CodAt.below {w w' : World} {C base : Nat} {lc lp pb st : Int} {r : R4} {P : List Nat} {vR vP : Value} (h : CodAt w C base lc lp pb st r P vR vP) (hb : Below w.heap.size w w') : CodAt w' C base lc lp pb st r P vR vP :=
  ⟨(hb.block _ (Array.getElem?_eq_some_iff.1 h.box).1).trans h.box, h.reps.below hb, h.ps.below hb⟩
theorem CodAt.cells {w : World} {C base : Nat} {lc lp pb st : Int} {r : R4} {P : List Nat} {vR vP : Value} (h : CodAt w C base lc lp pb st r P vR vP) :
    w.cell? ⟨C, 3, none⟩ = some (.int .i64 st) ∧ w.cell? ⟨C, 4, none⟩ = some vR ∧ w.cell? ⟨C, 5, none⟩ = some vP ∧ (∀ i, w.frozen? ⟨C, i, none⟩ = false) ∧
    ∃ g cap, vR = .slice (some ⟨g, 0, none⟩) 4 cap ∧ 4 ≤ cap ∧ cap ≤ 9223372036854775807 ∧ w.cell? ⟨g, 0, none⟩ = some (.int .i64 r.1) ∧ w.cell? ⟨g, 1, none⟩ = some (.int .i64 r.2.1) ∧ w.cell? ⟨g, 2, none⟩ = some (.int .i64 r.2.2.1) ∧ w.cell? ⟨g, 3, none⟩ = some (.int .i64 r.2.2.2) ∧ base ≤ g ∧ g < w.heap.size := by
  obtain ⟨g, cap, e, hg, hgl, hc, hm, hat⟩ := h.reps.some_of_pos (show 0 < 4 by decide)
  refine ⟨?_, ?_, ?_, fun i => frozen_of_row _ _ _ _ _ h.box, g, cap, e, hc, hm, hat 0 (show 0 < 4 by decide), hat 1 (show 1 < 4 by decide), hat 2 (show 2 < 4 by decide), hat 3 (show 3 < 4 by decide), hg, hgl⟩
  · rw [cell_of_row w _ _ _ _ _ h.box]; rfl
  · rw [cell_of_row w _ _ _ _ _ h.box]; rfl
  · rw [cell_of_row w _ _ _ _ _ h.box]; rfl
def fitsZ (r : R4) (n k l d q : Int) : Bool :=
  if k = 1 then decide (2 ≤ l ∧ l ≤ 273 ∧ 1 ≤ d ∧ d ≤ n ∧ d ≤ 4294967295)
  else if k = 2 then decide (0 ≤ q ∧ q ≤ 3 ∧ rAt r q ≤ n ∧ ((2 ≤ l ∧ l ≤ 273) ∨ (l = 1 ∧ q = 0)))
  else decide (k = 0)
def SBool (b : Bool) (w : World) (e : Ending) (w' : World) : Prop := e = .returned (.bool b) ∧ Below w.heap.size w w'
end Go.Proofs.Ytkckjjchfccdjaa

/- The reference's coder: Dist and Plain. -/
namespace Go.Proofs.Ytkckjjchfccdjaa
set_option maxRecDepth 100000
open Go.RowKit

def distZ (r : R4) (k d q : Int) : Int := if k = 1 then d else if k = 2 then rAt r q else 0
def SInt (n : Int) (w : World) (e : Ending) (w' : World) : Prop := e = .returned (.int .i64 n) ∧ Below w.heap.size w w'
theorem sy_box {w W1 : World} {v0 v1 v2 v3 v4 : Value} (hW1 : w.alloc (.cells #[v0, v1, v2, v3, v4] 99) = W1) : W1.cell? ⟨w.heap.size, 0, none⟩ = some v0 ∧ W1.cell? ⟨w.heap.size, 1, none⟩ = some v1 ∧ W1.cell? ⟨w.heap.size, 2, none⟩ = some v2 ∧ W1.cell? ⟨w.heap.size, 3, none⟩ = some v3 ∧ W1.cell? ⟨w.heap.size, 4, none⟩ = some v4 ∧ Below w.heap.size w W1 := by
  have hr : W1.heap[w.heap.size]? = some (.cells [v0, v1, v2, v3, v4].toArray 99 (0, 0)) := by rw [← hW1]; exact heap_alloc_last _ _
  refine ⟨?_, ?_, ?_, ?_, ?_, by rw [← hW1]; exact (Below.refl _ _).alloc (Nat.le_refl _) _⟩ <;> (rw [cell_of_row W1 _ _ _ _ _ hr]; rfl)
set_option maxRecDepth 100000 in
set_option maxHeartbeats 1000000 in
theorem dist_any (C base : Nat) (lc lp pb st : Int) (r : R4) (P : List Nat) (vR vP : Value) (k : Int) (b : UInt8) (l d q : Int) (w : World) (hC : CodAt w C base lc lp pb st r P vR vP) (hq : k = 2 → 0 ≤ q ∧ q ≤ 3) :
    Calls Try.prog 43 #[PF C, SyV k b l d q] w (SInt (distZ r k d q) w) := by
  have HB : Hid (∀ o : Obj, Below w.heap.size w (w.alloc o)) := Lib.hid (fun o => (Below.refl _ _).alloc (Nat.le_refl _) _)
  by_cases k1 : k = 1
  · subst k1
    have HR : Hid (distZ r 1 d q = d) := Lib.hid rfl
    rw [HR.out]
    clear hC
    go_enter Try.func43, Try.ntmps43
    go_wp2_with fail
    go_ret
    exact ⟨rfl, HB.out _⟩
  · have k1b : (k == 1) = false := by rw [beq_eq_false_iff_ne]; exact k1
    by_cases k2 : k = 2
    case neg =>
      have k2b : (k == 2) = false := by rw [beq_eq_false_iff_ne]; exact k2
      have HR : Hid (distZ r k d q = 0) := Lib.hid (by unfold distZ; rw [if_neg k1, if_neg k2])
      rw [HR.out]
      clear hC k1 k2
      go_enter Try.func43, Try.ntmps43
      go_wp2_with fail
      go_ret
      exact ⟨rfl, HB.out _⟩
    subst k2
    have hqs : q = 0 ∨ q = 1 ∨ q = 2 ∨ q = 3 := by have := hq rfl; omega
    clear hq k1 k1b
    obtain ⟨_, _, _, _, g, cap, rfl, hcap, _, _⟩ := hC.cells
    have hcpi : (4 : Int) ≤ (cap : Int) := by omega
    have HC := Lib.hid (fun (W1 : World) (hb : Below w.heap.size w W1) => (show W1.cell? ⟨C, 4, none⟩ = some (.slice (some ⟨g, 0, none⟩) 4 cap) ∧ W1.cell? ⟨g, 0, none⟩ = some (.int .i64 r.1) ∧ W1.cell? ⟨g, 1, none⟩ = some (.int .i64 r.2.1) ∧ W1.cell? ⟨g, 2, none⟩ = some (.int .i64 r.2.2.1) ∧ W1.cell? ⟨g, 3, none⟩ = some (.int .i64 r.2.2.2) from by
      obtain ⟨_, x4, _, _, g', cap', e, _, _, x0, x1, x2, x3, _⟩ := (hC.below hb).cells
      injection e with e _ _
      injection e with e
      injection e with e
      subst e
      exact ⟨x4, x0, x1, x2, x3⟩))
    clear hC
    rcases hqs with rfl | rfl | rfl | rfl
    · have HR : Hid (distZ r 2 d 0 = r.1) := Lib.hid rfl
      rw [HR.out]
      go_enter Try.func43, Try.ntmps43
      go_upto_region 5 with fail
      obtain ⟨W1, hW1⟩ : ∃ W1, w.alloc (.cells #[.int .i64 2, .int .u8 (b.toNat : Nat), .int .i64 l, .int .i64 d, .int .i64 0] 99) = W1 := ⟨_, rfl⟩
      rw [hW1]
      obtain ⟨_, _, _, _, y4, hbb⟩ := sy_box hW1
      obtain ⟨cR, c0, c1, c2, c3⟩ := HC.out W1 hbb
      have HBB := Lib.hid hbb
      clear hbb hW1
      go_quiet (fail)
      go_wp2_with fail
      go_ret
      exact ⟨rfl, below_drewN HBB.out _⟩
    · have HR : Hid (distZ r 2 d 1 = r.2.1) := Lib.hid rfl
      rw [HR.out]
      go_enter Try.func43, Try.ntmps43
      go_upto_region 5 with fail
      obtain ⟨W1, hW1⟩ : ∃ W1, w.alloc (.cells #[.int .i64 2, .int .u8 (b.toNat : Nat), .int .i64 l, .int .i64 d, .int .i64 1] 99) = W1 := ⟨_, rfl⟩
      rw [hW1]
      obtain ⟨_, _, _, _, y4, hbb⟩ := sy_box hW1
      obtain ⟨cR, c0, c1, c2, c3⟩ := HC.out W1 hbb
      have HBB := Lib.hid hbb
      clear hbb hW1
      go_quiet (fail)
      go_wp2_with fail
      go_ret
      exact ⟨rfl, below_drewN HBB.out _⟩
    · have HR : Hid (distZ r 2 d 2 = r.2.2.1) := Lib.hid rfl
      rw [HR.out]
      go_enter Try.func43, Try.ntmps43
      go_upto_region 5 with fail
      obtain ⟨W1, hW1⟩ : ∃ W1, w.alloc (.cells #[.int .i64 2, .int .u8 (b.toNat : Nat), .int .i64 l, .int .i64 d, .int .i64 2] 99) = W1 := ⟨_, rfl⟩
      rw [hW1]
      obtain ⟨_, _, _, _, y4, hbb⟩ := sy_box hW1
      obtain ⟨cR, c0, c1, c2, c3⟩ := HC.out W1 hbb
      have HBB := Lib.hid hbb
      clear hbb hW1
      go_quiet (fail)
      go_wp2_with fail
      go_ret
      exact ⟨rfl, below_drewN HBB.out _⟩
    · have HR : Hid (distZ r 2 d 3 = r.2.2.2) := Lib.hid rfl
      rw [HR.out]
      go_enter Try.func43, Try.ntmps43
      go_upto_region 5 with fail
      obtain ⟨W1, hW1⟩ : ∃ W1, w.alloc (.cells #[.int .i64 2, .int .u8 (b.toNat : Nat), .int .i64 l, .int .i64 d, .int .i64 3] 99) = W1 := ⟨_, rfl⟩
      rw [hW1]
      obtain ⟨_, _, _, _, y4, hbb⟩ := sy_box hW1
      obtain ⟨cR, c0, c1, c2, c3⟩ := HC.out W1 hbb
      have HBB := Lib.hid hbb
      clear hbb hW1
      go_quiet (fail)
      go_wp2_with fail
      go_ret
      exact ⟨rfl, below_drewN HBB.out _⟩
def plainZ (k : Int) (b : UInt8) (l d q : Int) : Value := if k = 0 then SyV 0 b 0 0 0 else if k = 1 then SyV 1 0 l d 0 else SyV 2 0 l 0 q
def SVal (v : Value) (w : World) (e : Ending) (w' : World) : Prop := e = .returned v ∧ Below w.heap.size w w'
end Go.Proofs.Ytkckjjchfccdjaa

/- The reference's coder: Two and New. -/
namespace Go.Proofs.Ytkckjjchfccdjaa
set_option maxRecDepth 100000
open Go.RowKit

set_option maxRecDepth 100000 in
theorem two_any (n : Nat) (hn : n ≤ 30) (w : World) : Calls Try.prog 41 #[.int .i64 (n : Nat)] w fun e w' => e = .returned (.int .i64 (2 ^ n : Nat)) ∧ w = w' := by
  have hni : (n : Int) ≤ 30 := by omega
  go_enter Try.func41, Try.ntmps41
  go_wp2_with fail
  go_loopw [3, 4] (fun p i wr => ∃ (k : Nat), k ≤ n ∧ i = .int .i64 (k : Nat) ∧ p = .int .i64 (2 ^ k : Nat) ∧ wr = w) (fun _ i _ => n - (intOf i).toNat)
  case atStart => exact ⟨0, by omega, rfl, rfl, rfl⟩
  case round =>
    obtain ⟨k, hk, rfl, rfl, rfl⟩ := hrel
    have HP : Hid (2 ^ (k + 1) = 2 * 2 ^ k) := Lib.hid (by rw [Nat.pow_succ]; omega)
    have hbd : 2 ^ k ≤ 2 ^ 30 := Nat.pow_le_pow_right (by decide) (by omega)
    have e30 : (2 : Nat) ^ 30 = 1073741824 := by decide
    rw [e30] at hbd
    obtain ⟨p, hp⟩ : ∃ p, 2 ^ k = p := ⟨_, rfl⟩
    rw [hp] at HP hbd ⊢
    have hbi : (p : Int) ≤ 1073741824 := by omega
    by_cases hkn : k < n
    · have hki : (k : Int) < (n : Int) := by omega
      clear hp e30
      go_wp2_with fail
      exact ⟨⟨k + 1, by omega, by go_num, by rw [HP.out]; congr 1, trivial⟩, by simp [intOf]; omega⟩
    · obtain rfl : k = n := by omega
      have HPP := Lib.hid hp
      clear hp e30
      go_wp2_with fail
      go_ret
      exact ⟨by rw [HPP.out]; rfl, rfl⟩
theorem elem16 : Elem 92 34 (.int .u16 0) 2 := ⟨Try.underlying92, by kernel_rfl, rfl⟩
theorem elemI : Elem 91 3 (.int .i64 0) 8 := ⟨Try.underlying91, by kernel_rfl, rfl⟩
section
variable {w w' : World} {C base : Nat} {lc lp pb st : Int} {r : R4} {P P' : List Nat} {vR vP vP' : Value}
theorem CodAt.lt (h : CodAt w C base lc lp pb st r P vR vP) : C < w.heap.size := (Array.getElem?_eq_some_iff.1 h.box).1
theorem CodAt.apartR (h : CodAt w C base lc lp pb st r P vR vP) : vR.ownBlock ≠ some C := h.reps.apart h.box (by decide)
theorem CodAt.apartP (h : CodAt w C base lc lp pb st r P vR vP) : vP.ownBlock ≠ some C := h.ps.apart h.box (by decide)
theorem CodAt.apartRP (h : CodAt w C base lc lp pb st r P vR vP) (g : Nat) (hg : vR.ownBlock = some g) : vP.ownBlock ≠ some g := by
  rcases h.reps with ⟨_, ⟨rfl, _⟩ | ⟨g', cap, cur, rfl, _, hh, _⟩⟩
  · cases hg
  · injection hg with hg
    subst hg
    exact h.ps.apart hh (by decide)
theorem OwnV.setOther {t : TypeId} {base : Nat} {w : World} {v : Value} {l : List Value} (h : OwnV t base w v l) {p : Addr} (hp : v.ownBlock ≠ some p.block) (u : Value) : OwnV t base (w.setCell p u) v l :=
  h.keep fun g hg => heap_setCell_other _ _ _ _ (fun e => hp (by rw [hg, e]))
/-- Chances appended, and stored. -/
theorem CodAt.growP (h : CodAt w C base lc lp pb st r P vR vP) (hg : w.grownBy w' vP.ownBlock) (ho : OwnV 34 base w' vP' (P'.map fun x => .int .u16 (x : Nat))) (hC : vP'.ownBlock ≠ some C) : CodAt (w'.setCell ⟨C, 5, none⟩ vP') C base lc lp pb st r P' vR vP' := by
  have hb : w'.heap[C]? = _ := (hg.block C h.lt (fun e => h.apartP e.symm)).trans h.box
  refine ⟨heap_set hb 5 vP', ?_, ho.setOther hC _⟩
  exact (h.reps.grown hg (fun g e => h.apartRP g e)).setOther h.apartR _
end
theorem rep_len (k : Nat) : ((List.replicate k 1024).map (fun x : Nat => Value.int .u16 (x : Nat))).length = k := by simp
theorem rep_succ (k : Nat) : (List.replicate (k + 1) 1024).map (fun x : Nat => Value.int .u16 (x : Nat)) = (List.replicate k 1024).map (fun x : Nat => Value.int .u16 (x : Nat)) ++ [.int .u16 1024] := by
  rw [List.replicate_succ', List.map_append]; rfl
def NewC (lc lp pb : Nat) (w : World) (e : Ending) (w' : World) : Prop := ∃ C vR vP, e = .returned (PF C) ∧ CodAt w' C w.heap.size lc lp pb 0 (1, 1, 1, 1) (List.replicate (2180 + 768 * 2 ^ (lc + lp)) 1024) vR vP ∧ Below w.heap.size w w' ∧ w.heap.size ≤ C
set_option maxRecDepth 100000 in
set_option maxHeartbeats 1000000 in
theorem newC_any (lc lp pb : Nat) (hl : lc + lp ≤ 8) (w : World) : Calls Try.prog 23 #[.int .i64 (lc : Nat), .int .i64 (lp : Nat), .int .i64 (pb : Nat)] w (NewC lc lp pb w) := by
  obtain ⟨s, hs⟩ : ∃ s, lc + lp = s := ⟨_, rfl⟩
  have hsi : (lc : Int) + (lp : Int) = (s : Int) := by omega
  have HT := Lib.hid (fun w => two_any s (by omega) w)
  have h2 : 2 ^ s ≤ 256 := Nat.le_trans (Nat.pow_le_pow_right (by decide) (show s ≤ 8 by omega)) (by decide)
  obtain ⟨T, hT⟩ : ∃ T, 2 ^ s = T := ⟨_, rfl⟩
  rw [hT] at HT h2
  obtain ⟨N, hN⟩ : ∃ N, 2180 + 768 * T = N := ⟨_, rfl⟩
  have HNC : Hid (2180 + 768 * 2 ^ (lc + lp) = N) := Lib.hid (by rw [hs, hT, hN])
  have hNi : (2180 : Int) + 768 * (T : Int) = (N : Int) := by omega
  have hNb : (N : Int) ≤ 200000 := by omega
  have hTi : (T : Int) ≤ 256 := by omega
  have hlci : (lc : Int) ≤ 8 := by omega
  have hlpi : (lp : Int) ≤ 8 := by omega
  unfold NewC
  rw [HNC.out]
  clear hs hT h2 hN hl
  go_enter Try.func23, Try.ntmps23
  go_wp2_with fail
  obtain ⟨W1, hW1⟩ : ∃ W1, w.alloc (.cells #[.int .i64 1, .int .i64 1, .int .i64 1, .int .i64 1] 3) = W1 := ⟨_, rfl⟩
  rw [hW1]
  have hr1 : OwnV 3 w.heap.size W1 (.slice (some ⟨w.heap.size, 0, none⟩) 4 4) (rc4 (1, 1, 1, 1)) := by
    rw [← hW1]; exact OwnV.lit 3 w (rc4 (1, 1, 1, 1)) (Nat.le_refl _) (by show 4 ≤ _; decide)
  have hb1 : Below w.heap.size w W1 := by rw [← hW1]; exact (Below.refl _ _).alloc (Nat.le_refl _) _
  obtain ⟨W, hW⟩ : ∃ W, W1.alloc (.cells #[.int .i64 (lc : Nat), .int .i64 (lp : Nat), .int .i64 (pb : Nat), .int .i64 0, .slice (some ⟨w.heap.size, 0, none⟩) 4 4, .slice none 0 0] 94) = W := ⟨_, rfl⟩
  rw [hW]
  have hb : Below w.heap.size w W := by rw [← hW]; exact hb1.alloc hb1.size _
  obtain ⟨C, hC0⟩ : ∃ C, w.heap.size + 1 = C := ⟨_, rfl⟩
  have hC : W1.heap.size = C := by rw [← hC0, ← hW1]; simp
  have hCge : w.heap.size ≤ C := by rw [← hC]; exact hb1.size
  have hcod : CodAt W C w.heap.size lc lp pb 0 (1, 1, 1, 1) (List.replicate 0 1024) (.slice (some ⟨w.heap.size, 0, none⟩) 4 4) (.slice none 0 0) :=
    ⟨by rw [← hW, ← hC]; exact heap_alloc_last _ _, by rw [← hW]; exact hr1.alloc _, OwnV.nil _ _ _⟩
  rw [hC0]
  have HCOD := Lib.hid hcod
  have HB := Lib.hid hb
  have HCGE := Lib.hid hCge
  clear hW1 hr1 hb1 hW hb hC hC0 hCge hcod
  go_loopw [8] (fun i wr => ∃ (k : Nat) (vP : Value), k ≤ N ∧ i = .int .i64 (k : Nat) ∧ Hid (CodAt wr C w.heap.size lc lp pb 0 (1, 1, 1, 1) (List.replicate k 1024) (.slice (some ⟨w.heap.size, 0, none⟩) 4 4) vP) ∧ Hid (Below w.heap.size w wr)) (fun i _ => N - (intOf i).toNat)
  case atStart => exact ⟨0, _, by omega, rfl, HCOD, HB⟩
  case round =>
    obtain ⟨k, vP, hk, rfl, HCR, HBR⟩ := hrel
    by_cases hkN : k < N
    · have hki : (k : Int) < (N : Int) := by omega
      go_wp2_with fail
      refine (HT.out _).mono ?_
      rintro e w1 ⟨rfl, rfl⟩
      obtain ⟨_, _, c5, fz, _⟩ := HCR.out.cells
      have fz5 := fz 5
      have hps := HCR.out.ps
      have hbs := HBR.out.size
      obtain ⟨W3, hW3⟩ : ∃ W3, wr.alloc (.cells #[.int .u16 1024] 34) = W3 := ⟨_, rfl⟩
      have hown3 : OwnV 34 w.heap.size W3 vP ((List.replicate k 1024).map fun x => .int .u16 (x : Nat)) := by rw [← hW3]; exact hps.alloc _
      have hlit : ∀ i (h : i < [Value.int .u16 1024].length), W3.cell? ⟨wr.heap.size, i, none⟩ = some [Value.int .u16 1024][i] := by rw [← hW3]; exact lit_cell1 wr _ _
      have hb3 : Below wr.heap.size wr W3 := by rw [← hW3]; exact (Below.refl _ _).alloc (Nat.le_refl _) _
      have hc3 := HCR.out.below hb3
      have hlen : ((List.replicate k 1024).map fun x => Value.int .u16 (x : Nat)).length ≤ 200000 := by simp; omega
      have HW3 := Lib.hid hW3
      have HOWN := Lib.hid hown3
      have HLIT := Lib.hid hlit
      have HLEN := Lib.hid hlen
      have HC3 := Lib.hid hc3
      have HB3 := Lib.hid (HBR.out.trans (hb3.mono hbs))
      clear fz hps hbs hW3 hown3 hlit hb3 hc3 hlen
      go_wp2_with (at_builtin; rw [HW3.out]; refine wpList_append_vals elem16 rfl (.tmp 29) (.tmp 30) rfl w.heap.size W3 vP _ rfl HOWN.out wr.heap.size 1 1 [.int .u16 1024] rfl rfl HLIT.out (by intro u hu; simp at hu; subst hu; rfl) (by have := HLEN.out; omega) (by have := HLEN.out; omega) HB3.out.size ?_; intro v' w4 hown4 hg4 hloc; clear hloc; have hbw := below_grown HB3.out hg4 HB3.out.size (fun g e => (HOWN.out.lt g e).1); have hC4 : w4.heap[C]? = _ := (hg4.block C HC3.out.lt (fun e => HC3.out.apartP e.symm)).trans HC3.out.box; have hown5 : OwnV 34 w.heap.size w4 v' ((List.replicate (k + 1) 1024).map fun x => .int .u16 (x : Nat)) := (by rw [rep_succ]; exact hown4); obtain ⟨g', cap', e', _⟩ := hown5.some_of_pos (by rw [rep_len]; omega); rw [rep_len] at e'; subst e'; have HC5 := Lib.hid (HC3.out.growP hg4 hown5 (hown5.apart hC4 (by decide))); have HB5 : Hid (Below w.heap.size w (w4.setCell ⟨C, 5, none⟩ (.slice (some ⟨g', 0, none⟩) (k + 1 : Nat) cap'))) := Lib.hid (hbw.setCell HCGE.out _); have fz5 : w4.frozen? ⟨C, 5, none⟩ = false := frozen_of_row _ _ _ _ _ hC4; have c55 : w4.cell? ⟨C, 5, none⟩ = some vP := (by rw [cell_of_row w4 _ _ _ _ _ hC4]; rfl); clear hown4 hg4 hbw hC4 hown5)
      exact ⟨⟨k + 1, _, by omega, by go_num, HC5, HB5⟩, by simp [intOf]; omega⟩
    · obtain rfl : k = N := by omega
      go_wp2_with fail
      refine (HT.out _).mono ?_
      rintro e w1 ⟨rfl, rfl⟩
      go_wp2_with fail
      go_ret
      exact ⟨C, _, _, rfl, HCR.out, HBR.out, HCGE.out⟩
end Go.Proofs.Ytkckjjchfccdjaa
