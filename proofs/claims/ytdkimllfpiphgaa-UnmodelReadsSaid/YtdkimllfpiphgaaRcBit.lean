/- The walk over the coder's Bit, and over New. -/
import Derived.Test.YtdkimllfpiphgaaRcShift
namespace Go.Proofs.Ytdkimllfpiphgaa
open Go.RowKit

/-- What Bit comes to. -/
def BitDone (w : World) (g o : Nat) (bit : Int) (p : Nat) (t : Rc.St) (e : Ending) (w' : World) : Prop :=
  e = .returned (.tuple #[.int .i64 bit, .int .u16 (p : Nat)]) ∧ Shifted w g o t w'

theorem bound_u32 (r p : Nat) (hr : r < 4294967296) (hp : p ≤ 2047) : (((r : Int) / 2048) * (p : Int)) % 4294967296 = ((r / 2048 * p : Nat) : Int) := by
  have h : r / 2048 * p ≤ r / 2048 * 2047 := Nat.mul_le_mul_left _ hp
  have e : ((r : Int) / 2048) * (p : Int) = ((r / 2048 * p : Nat) : Int) := by simp
  rw [e]; omega

set_option maxRecDepth 100000 in
set_option maxHeartbeats 1000000 in
theorem bit_any (g o cap : Nat) (s : Rc.St) (c : BitVec 16) (bit : Int) (w : World) (hE : EncAt w g o cap s) (hs : s.ok) (hk : 1 + s.k + 2 ≤ 140737488355328) :
    Calls Try.prog 90 #[.pointer (some ⟨g, 0, none⟩), .int .u16 c.toNat, .int .i64 bit] w
      (BitDone w g o (bitI (bit != 0)) (Rc.next (Rc.fair c.toNat) (bit != 0)) (Rc.St.scale 2 (s.pick (Rc.fair c.toNat) (bit != 0)))) := by
  obtain ⟨hp1, hp2⟩ := Rc.fair_bounds c.toNat
  have hv := Lib.hid (fun w => valid_any c w)
  generalize Rc.fair c.toNat = p at *
  have hsr := hs.1.2
  have hbd := bound_u32 s.r p hsr hp2
  have hble : s.r / 2048 * p ≤ s.r / 2048 * 2047 := Nat.mul_le_mul_left _ hp2
  generalize hbn : s.r / 2048 * p = bnd at *
  have hblt : bnd < 4294967296 := by omega
  have hbr : bnd ≤ s.r := by omega
  have HBN := Lib.hid hbn
  clear hbn
  have c1 := cell1_of hE.blk
  have f1 := frozen_of_row w g 1 _ _ hE.blk
  by_cases hb : bit = 0
  · subst hb
    obtain ⟨hpf, hpr⟩ := s.pick_fits p false hs hp1 hp2
    have hmv := Lib.hid (fun w => moved_any p false w hp1 hp2)
    have e0 : bitI ((0 : Int) != 0) = 0 := rfl
    rw [e0, show ((0 : Int) != 0) = false from rfl]
    have hpk : s.pick p false = ⟨s.k, s.v, bnd⟩ := by rw [← HBN.out]; rfl
    rw [hpk] at hpf hpr ⊢
    have hE1 : EncAt (w.setCell ⟨g, 1, none⟩ (.int .u32 ((bnd : Nat) : Int))) g o cap ⟨s.k, s.v, bnd⟩ := ⟨blk_set1 hE.blk _, own_other hE.own hE.ne _, hE.ne⟩
    have hsh := Lib.hid (shift_any 2 g o cap ⟨s.k, s.v, bnd⟩ _ hE1 hpf (by show 1 + s.k + 2 ≤ _; exact hk) (by show 16777216 ≤ bnd * 256 ^ 2; have : 8192 ≤ bnd := hpr; omega))
    go_enter Try.func90, Try.ntmps90
    go_wp2_with fail
    refine (hv.out _).mono ?_
    rintro e w' ⟨rfl, rfl⟩
    go_wp2_with fail
    refine (hmv.out _).mono ?_
    rintro e w' ⟨rfl, rfl⟩
    go_wp2_with fail
    refine hsh.out.mono ?_
    rintro e w1 ⟨rfl, o', cap', hE2, hon, ho⟩
    go_wp2_with fail
    go_ret2
    exact ⟨rfl, o', cap', hE2, ((Only.refl _ _).setCell (p := ⟨g, 1, none⟩) (.inl (by simp)) _).trans hon (by simp), by rcases ho with h | h; exact .inl h; exact .inr (by simpa using h)⟩
  · have hbt : (bit != 0) = true := by rw [bne_iff_ne]; exact hb
    obtain ⟨hpf, hpr⟩ := s.pick_fits p true hs hp1 hp2
    have hmv := Lib.hid (fun w => moved_any p true w hp1 hp2)
    rw [hbt, show bitI true = 1 from rfl]
    have hpk : s.pick p true = ⟨s.k, s.v + bnd, s.r - bnd⟩ := by rw [← HBN.out]; rfl
    rw [hpk] at hpf hpr ⊢
    have hadd := Lib.hid (add_any g o cap s bnd w hE hblt (by omega))
    have hbt0 : (bit == 0) = false := beq_eq_false_iff_ne.2 hb
    have hsub : (s.r : Int) - (bnd : Int) = ((s.r - bnd : Nat) : Int) := by omega
    go_enter Try.func90, Try.ntmps90
    go_wp2_with fail
    refine (hv.out _).mono ?_
    rintro e w' ⟨rfl, rfl⟩
    go_wp2_with fail
    refine (hmv.out _).mono ?_
    rintro e w' ⟨rfl, rfl⟩
    go_wp2_with fail
    refine hadd.out.mono ?_
    rintro e w1 ⟨rfl, hEa, hona⟩
    have d1 := cell1_of hEa.blk
    have e1 := frozen_of_row w1 g 1 _ _ hEa.blk
    have hE1 : EncAt (w1.setCell ⟨g, 1, none⟩ (.int .u32 ((s.r - bnd : Nat) : Int))) g o cap ⟨s.k, s.v + bnd, s.r - bnd⟩ := ⟨blk_set1 hEa.blk _, own_other hEa.own hEa.ne _, hEa.ne⟩
    have hsh := Lib.hid (shift_any 2 g o cap ⟨s.k, s.v + bnd, s.r - bnd⟩ _ hE1 hpf (by show 1 + s.k + 2 ≤ _; exact hk) (by show 16777216 ≤ (s.r - bnd) * 256 ^ 2; have : 8192 ≤ s.r - bnd := hpr; omega))
    simp only at d1
    go_wp2_with fail
    refine hsh.out.mono ?_
    rintro e w2 ⟨rfl, o', cap', hE2, hon, ho⟩
    go_wp2_with fail
    go_ret2
    have hsz := hona.size
    exact ⟨rfl, o', cap', hE2, (hona.setCell (p := ⟨g, 1, none⟩) (.inl (by simp)) _).trans hon (by simp), by rcases ho with h | h; exact .inl h; exact .inr (by simp at h; omega)⟩

theorem be_one_zero : Rc.be (1 + 0) (0 / 4294967296) = [0] := by decide

/-- The coder at first. -/
def st0 : Rc.St := ⟨0, 0, 4294967295⟩
theorem st0_ok : st0.ok := ⟨⟨by decide, by decide⟩, by decide⟩
def NewDone (w : World) (e : Ending) (w' : World) : Prop := ∃ g o cap, e = .returned (.pointer (some ⟨g, 0, none⟩)) ∧ EncAt w' g o cap st0 ∧ Below w.heap.size w w' ∧ w.heap.size ≤ g ∧ w.heap.size ≤ o

set_option maxRecDepth 100000 in
set_option maxHeartbeats 400000 in
theorem new_any (w : World) : Calls Try.prog 18 #[] w (NewDone w) := by
  go_enter Try.func18, Try.ntmps18
  go_wp2_with fail
  go_ret
  refine ⟨w.heap.size + 1, w.heap.size, 1, rfl, ⟨?_, ?_, by omega⟩, ((Below.refl _ _).alloc (Nat.le_refl _) _).alloc (by simp) _, by omega, Nat.le_refl _⟩
  · have h := heap_alloc_new (w.alloc (.cells #[.int .u8 0] 5)) (.cells #[.int .u32 0, .int .u32 4294967295, .slice (some ⟨w.heap.size, 0, none⟩) 1 1] 96)
    have hsz : (w.alloc (.cells #[.int .u8 0] 5)).heap.size = w.heap.size + 1 := by simp
    rw [hsz] at h
    exact h
  · refine World.ownsRow.alloc ?_ _
    show World.ownsRow _ 0 _ 1 (.slice (some ⟨w.heap.size, 0, none⟩) (1 + 0) 1) (1 + 0) ((Rc.be (1 + 0) (0 / 4294967296)).map B8)
    rw [be_one_zero]
    exact World.ownsRow_lit (base := 0) (e := 5) (size := 1) w #[.int .u8 0] 1 (Nat.zero_le _) (by unfold maxLen; omega) (by decide)
end Go.Proofs.Ytdkimllfpiphgaa
