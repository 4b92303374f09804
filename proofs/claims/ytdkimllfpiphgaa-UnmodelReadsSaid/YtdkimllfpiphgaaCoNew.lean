/- The reference's coder: Two and New. -/
import Derived.Test.YtdkimllfpiphgaaCoRead2
namespace Go.Proofs.Ytdkimllfpiphgaa
open Go.RowKit

set_option maxRecDepth 100000 in
theorem two_any (n : Nat) (hn : n ≤ 30) (w : World) : Calls Try.prog 29 #[.int .i64 (n : Nat)] w fun e w' => e = .returned (.int .i64 (2 ^ n : Nat)) ∧ w = w' := by
  have hni : (n : Int) ≤ 30 := by omega
  go_enter Try.func29, Try.ntmps29
  go_wp2_with fail
  go_loopw [3, 4] (fun p i wr => ∃ (k : Nat), k ≤ n ∧ i = .int .i64 (k : Nat) ∧ p = .int .i64 (2 ^ k : Nat) ∧ wr = w) (fun _ i _ => n - (intOf i).toNat)
  case atStart => exact ⟨0, by omega, rfl, rfl, rfl⟩
  case round =>
    obtain ⟨k, hk, rfl, rfl, rfl⟩ := hrel
    have HP : Hid (2 ^ (k + 1) = 2 * 2 ^ k) := Lib.hid (by rw [Nat.pow_succ]; omega)
    have hbd : 2 ^ k ≤ 2 ^ 30 := Nat.pow_le_pow_right (by decide) (by omega)
    have e30 : (2 : Nat) ^ 30 = 1073741824 := by decide
    rw [e30] at hbd
    obtain ⟨p, hp⟩ : ∃ p, 2 ^ k = p := ⟨_, rfl⟩
    rw [hp] at HP hbd ⊢
    have hbi : (p : Int) ≤ 1073741824 := by omega
    by_cases hkn : k < n
    · have hki : (k : Int) < (n : Int) := by omega
      clear hp e30
      go_wp2_with fail
      exact ⟨⟨k + 1, by omega, by go_num, by rw [HP.out]; congr 1, trivial⟩, by simp [intOf]; omega⟩
    · obtain rfl : k = n := by omega
      have HPP := Lib.hid hp
      clear hp e30
      go_wp2_with fail
      go_ret
      exact ⟨by rw [HPP.out]; rfl, rfl⟩
theorem elem16 : Elem 46 69 (.int .u16 0) 2 := ⟨Try.underlying46, by kernel_rfl, rfl⟩
theorem elemI : Elem 45 3 (.int .i64 0) 8 := ⟨Try.underlying45, by kernel_rfl, rfl⟩
section
variable {w w' : World} {C base : Nat} {lc lp pb st : Int} {r : R4} {P P' : List Nat} {vR vP vP' : Value}
theorem CodAt.lt (h : CodAt w C base lc lp pb st r P vR vP) : C < w.heap.size := (Array.getElem?_eq_some_iff.1 h.box).1
theorem CodAt.apartR (h : CodAt w C base lc lp pb st r P vR vP) : vR.ownBlock ≠ some C := h.reps.apart h.box (by decide)
theorem CodAt.apartP (h : CodAt w C base lc lp pb st r P vR vP) : vP.ownBlock ≠ some C := h.ps.apart h.box (by decide)
theorem CodAt.apartRP (h : CodAt w C base lc lp pb st r P vR vP) (g : Nat) (hg : vR.ownBlock = some g) : vP.ownBlock ≠ some g := by
  rcases h.reps with ⟨_, ⟨rfl, _⟩ | ⟨g', cap, cur, rfl, _, hh, _⟩⟩
  · cases hg
  · injection hg with hg
    subst hg
    exact h.ps.apart hh (by decide)
theorem OwnV.setOther {t : TypeId} {base : Nat} {w : World} {v : Value} {l : List Value} (h : OwnV t base w v l) {p : Addr} (hp : v.ownBlock ≠ some p.block) (u : Value) : OwnV t base (w.setCell p u) v l :=
  h.keep fun g hg => heap_setCell_other _ _ _ _ (fun e => hp (by rw [hg, e]))
/-- Chances appended, and stored. -/
theorem CodAt.growP (h : CodAt w C base lc lp pb st r P vR vP) (hg : w.grownBy w' vP.ownBlock) (ho : OwnV 69 base w' vP' (P'.map fun x => .int .u16 (x : Nat))) (hC : vP'.ownBlock ≠ some C) : CodAt (w'.setCell ⟨C, 5, none⟩ vP') C base lc lp pb st r P' vR vP' := by
  have hb : w'.heap[C]? = _ := (hg.block C h.lt (fun e => h.apartP e.symm)).trans h.box
  refine ⟨heap_set hb 5 vP', ?_, ho.setOther hC _⟩
  exact (h.reps.grown hg (fun g e => h.apartRP g e)).setOther h.apartR _
end
theorem rep_len (k : Nat) : ((List.replicate k 1024).map (fun x : Nat => Value.int .u16 (x : Nat))).length = k := by simp
theorem rep_succ (k : Nat) : (List.replicate (k + 1) 1024).map (fun x : Nat => Value.int .u16 (x : Nat)) = (List.replicate k 1024).map (fun x : Nat => Value.int .u16 (x : Nat)) ++ [.int .u16 1024] := by
  rw [List.replicate_succ', List.map_append]; rfl
def NewC (lc lp pb : Nat) (w : World) (e : Ending) (w' : World) : Prop := ∃ C vR vP, e = .returned (PF C) ∧ CodAt w' C w.heap.size lc lp pb 0 (1, 1, 1, 1) (List.replicate (2180 + 768 * 2 ^ (lc + lp)) 1024) vR vP ∧ Below w.heap.size w w' ∧ w.heap.size ≤ C
set_option maxRecDepth 100000 in
set_option maxHeartbeats 1000000 in
theorem newC_any (lc lp pb : Nat) (hl : lc + lp ≤ 8) (w : World) : Calls Try.prog 11 #[.int .i64 (lc : Nat), .int .i64 (lp : Nat), .int .i64 (pb : Nat)] w (NewC lc lp pb w) := by
  obtain ⟨s, hs⟩ : ∃ s, lc + lp = s := ⟨_, rfl⟩
  have hsi : (lc : Int) + (lp : Int) = (s : Int) := by omega
  have HT := Lib.hid (fun w => two_any s (by omega) w)
  have h2 : 2 ^ s ≤ 256 := Nat.le_trans (Nat.pow_le_pow_right (by decide) (show s ≤ 8 by omega)) (by decide)
  obtain ⟨T, hT⟩ : ∃ T, 2 ^ s = T := ⟨_, rfl⟩
  rw [hT] at HT h2
  obtain ⟨N, hN⟩ : ∃ N, 2180 + 768 * T = N := ⟨_, rfl⟩
  have HNC : Hid (2180 + 768 * 2 ^ (lc + lp) = N) := Lib.hid (by rw [hs, hT, hN])
  have hNi : (2180 : Int) + 768 * (T : Int) = (N : Int) := by omega
  have hNb : (N : Int) ≤ 200000 := by omega
  have hTi : (T : Int) ≤ 256 := by omega
  have hlci : (lc : Int) ≤ 8 := by omega
  have hlpi : (lp : Int) ≤ 8 := by omega
  unfold NewC
  rw [HNC.out]
  clear hs hT h2 hN hl
  go_enter Try.func11, Try.ntmps11
  go_wp2_with fail
  obtain ⟨W1, hW1⟩ : ∃ W1, w.alloc (.cells #[.int .i64 1, .int .i64 1, .int .i64 1, .int .i64 1] 3) = W1 := ⟨_, rfl⟩
  rw [hW1]
  have hr1 : OwnV 3 w.heap.size W1 (.slice (some ⟨w.heap.size, 0, none⟩) 4 4) (rc4 (1, 1, 1, 1)) := by
    rw [← hW1]; exact OwnV.lit 3 w (rc4 (1, 1, 1, 1)) (Nat.le_refl _) (by show 4 ≤ _; decide)
  have hb1 : Below w.heap.size w W1 := by rw [← hW1]; exact (Below.refl _ _).alloc (Nat.le_refl _) _
  obtain ⟨W, hW⟩ : ∃ W, W1.alloc (.cells #[.int .i64 (lc : Nat), .int .i64 (lp : Nat), .int .i64 (pb : Nat), .int .i64 0, .slice (some ⟨w.heap.size, 0, none⟩) 4 4, .slice none 0 0] 48) = W := ⟨_, rfl⟩
  rw [hW]
  have hb : Below w.heap.size w W := by rw [← hW]; exact hb1.alloc hb1.size _
  obtain ⟨C, hC0⟩ : ∃ C, w.heap.size + 1 = C := ⟨_, rfl⟩
  have hC : W1.heap.size = C := by rw [← hC0, ← hW1]; simp
  have hCge : w.heap.size ≤ C := by rw [← hC]; exact hb1.size
  have hcod : CodAt W C w.heap.size lc lp pb 0 (1, 1, 1, 1) (List.replicate 0 1024) (.slice (some ⟨w.heap.size, 0, none⟩) 4 4) (.slice none 0 0) :=
    ⟨by rw [← hW, ← hC]; exact heap_alloc_last _ _, by rw [← hW]; exact hr1.alloc _, OwnV.nil _ _ _⟩
  rw [hC0]
  have HCOD := Lib.hid hcod
  have HB := Lib.hid hb
  have HCGE := Lib.hid hCge
  clear hW1 hr1 hb1 hW hb hC hC0 hCge hcod
  go_loopw [8] (fun i wr => ∃ (k : Nat) (vP : Value), k ≤ N ∧ i = .int .i64 (k : Nat) ∧ Hid (CodAt wr C w.heap.size lc lp pb 0 (1, 1, 1, 1) (List.replicate k 1024) (.slice (some ⟨w.heap.size, 0, none⟩) 4 4) vP) ∧ Hid (Below w.heap.size w wr)) (fun i _ => N - (intOf i).toNat)
  case atStart => exact ⟨0, _, by omega, rfl, HCOD, HB⟩
  case round =>
    obtain ⟨k, vP, hk, rfl, HCR, HBR⟩ := hrel
    by_cases hkN : k < N
    · have hki : (k : Int) < (N : Int) := by omega
      go_wp2_with fail
      refine (HT.out _).mono ?_
      rintro e w1 ⟨rfl, rfl⟩
      obtain ⟨_, _, c5, fz, _⟩ := HCR.out.cells
      have fz5 := fz 5
      have hps := HCR.out.ps
      have hbs := HBR.out.size
      obtain ⟨W3, hW3⟩ : ∃ W3, wr.alloc (.cells #[.int .u16 1024] 69) = W3 := ⟨_, rfl⟩
      have hown3 : OwnV 69 w.heap.size W3 vP ((List.replicate k 1024).map fun x => .int .u16 (x : Nat)) := by rw [← hW3]; exact hps.alloc _
      have hlit : ∀ i (h : i < [Value.int .u16 1024].length), W3.cell? ⟨wr.heap.size, i, none⟩ = some [Value.int .u16 1024][i] := by rw [← hW3]; exact lit_cell1 wr _ _
      have hb3 : Below wr.heap.size wr W3 := by rw [← hW3]; exact (Below.refl _ _).alloc (Nat.le_refl _) _
      have hc3 := HCR.out.below hb3
      have hlen : ((List.replicate k 1024).map fun x => Value.int .u16 (x : Nat)).length ≤ 200000 := by simp; omega
      have HW3 := Lib.hid hW3
      have HOWN := Lib.hid hown3
      have HLIT := Lib.hid hlit
      have HLEN := Lib.hid hlen
      have HC3 := Lib.hid hc3
      have HB3 := Lib.hid (HBR.out.trans (hb3.mono hbs))
      clear fz hps hbs hW3 hown3 hlit hb3 hc3 hlen
      go_wp2_with (at_builtin; rw [HW3.out]; refine wpList_append_vals elem16 rfl (.tmp 29) (.tmp 30) rfl w.heap.size W3 vP _ rfl HOWN.out wr.heap.size 1 1 [.int .u16 1024] rfl rfl HLIT.out (by intro u hu; simp at hu; subst hu; rfl) (by have := HLEN.out; omega) (by have := HLEN.out; omega) HB3.out.size ?_; intro v' w4 hown4 hg4 hloc; clear hloc; have hbw := below_grown HB3.out hg4 HB3.out.size (fun g e => (HOWN.out.lt g e).1); have hC4 : w4.heap[C]? = _ := (hg4.block C HC3.out.lt (fun e => HC3.out.apartP e.symm)).trans HC3.out.box; have hown5 : OwnV 69 w.heap.size w4 v' ((List.replicate (k + 1) 1024).map fun x => .int .u16 (x : Nat)) := (by rw [rep_succ]; exact hown4); obtain ⟨g', cap', e', _⟩ := hown5.some_of_pos (by rw [rep_len]; omega); rw [rep_len] at e'; subst e'; have HC5 := Lib.hid (HC3.out.growP hg4 hown5 (hown5.apart hC4 (by decide))); have HB5 : Hid (Below w.heap.size w (w4.setCell ⟨C, 5, none⟩ (.slice (some ⟨g', 0, none⟩) (k + 1 : Nat) cap'))) := Lib.hid (hbw.setCell HCGE.out _); have fz5 : w4.frozen? ⟨C, 5, none⟩ = false := frozen_of_row _ _ _ _ _ hC4; have c55 : w4.cell? ⟨C, 5, none⟩ = some vP := (by rw [cell_of_row w4 _ _ _ _ _ hC4]; rfl); clear hown4 hg4 hbw hC4 hown5)
      exact ⟨⟨k + 1, _, by omega, by go_num, HC5, HB5⟩, by simp [intOf]; omega⟩
    · obtain rfl : k = N := by omega
      go_wp2_with fail
      refine (HT.out _).mono ?_
      rintro e w1 ⟨rfl, rfl⟩
      go_wp2_with fail
      go_ret
      exact ⟨C, _, _, rfl, HCR.out, HBR.out, HCGE.out⟩
end Go.Proofs.Ytdkimllfpiphgaa
