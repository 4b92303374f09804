/- The walks over the reference's Bit, New and Bytes. -/
import Derived.Test.YteiglcgkhcmkeaaRcRefScale
namespace Go.Proofs.Yteiglcgkhcmkeaa
open Go.RowKit

/-- What the reference's Bit comes to. -/
def RBitDone (w : World) (h o : Nat) (p : Nat) (t : Rc.St) (e : Ending) (w' : World) : Prop := e = .returned (.int .u16 (p : Nat)) ∧ RefDone w h o t w'

theorem bound_u64 (r p : Nat) (hr : r < 4294967296) (hp : p ≤ 2047) : IntKind.u64.wrap (((r : Int) / 2048) * (p : Int)) = ((r / 2048 * p : Nat) : Int) := by
  have h : r / 2048 * p ≤ r / 2048 * 2047 := Nat.mul_le_mul_left _ hp
  have e : ((r : Int) / 2048) * (p : Int) = ((r / 2048 * p : Nat) : Int) := by simp
  rw [e, IntWalk.u64_in _ ⟨by omega, by omega⟩]

set_option maxRecDepth 100000 in
set_option maxHeartbeats 1000000 in
theorem rbit_any (h o cap : Nat) (s : Rc.St) (c : BitVec 16) (one : Bool) (w : World) (hE : RefAt w h o cap s) (hs : s.ok) (hk : 4 + s.k + 2 ≤ 140737488355328) :
    Calls Try.prog 9 #[.pointer (some ⟨h, 0, none⟩), .int .u16 c.toNat, .int .i64 (bitI one)] w
      (RBitDone w h o (Rc.next (Rc.fair c.toNat) one) (Rc.St.scale 2 (s.pick (Rc.fair c.toNat) one))) := by
  obtain ⟨hp1, hp2⟩ := Rc.fair_bounds c.toNat
  have hv := Lib.hid (fun w => fair_any c w)
  generalize Rc.fair c.toNat = p at *
  have hsr := hs.1.2
  have hbd := bound_u64 s.r p hsr hp2
  have hble : s.r / 2048 * p ≤ s.r / 2048 * 2047 := Nat.mul_le_mul_left _ hp2
  generalize hbn : s.r / 2048 * p = bnd at *
  have hblt : bnd < 4294967296 := by omega
  have hbr : bnd ≤ s.r := by omega
  have HBN := Lib.hid hbn
  clear hbn
  have c1 := cell21_of hE.blk
  have f1 := frozen_of_row w h 1 _ _ hE.blk
  cases one with
  | false =>
    obtain ⟨hpf, hpr⟩ := s.pick_fits p false hs hp1 hp2
    have hmv := Lib.hid (fun w => rnext_any p false w hp1 hp2)
    rw [show bitI false = 0 from rfl]
    have hpk : s.pick p false = ⟨s.k, s.v, bnd⟩ := by rw [← HBN.out]; rfl
    rw [hpk] at hpf hpr ⊢
    have hE1 : RefAt (w.setCell ⟨h, 1, none⟩ (.int .u64 ((bnd : Nat) : Int))) h o cap ⟨s.k, s.v, bnd⟩ := ⟨blk2_set1 hE.blk _, own_other hE.own hE.ne _, hE.ne⟩
    have hsh := Lib.hid (rscale_any 2 h o cap ⟨s.k, s.v, bnd⟩ _ hE1 hpf (by show 4 + s.k + 2 ≤ _; exact hk) (by show 16777216 ≤ bnd * 256 ^ 2; have : 8192 ≤ bnd := hpr; omega))
    go_enter Try.func9, Try.ntmps9
    go_wp2_with fail
    refine (hv.out _).mono ?_
    rintro e w' ⟨rfl, rfl⟩
    go_wp2_with fail
    refine hsh.out.mono ?_
    rintro e w1 ⟨rfl, o', cap', hE2, hon, ho⟩
    go_wp2_with fail
    refine (hmv.out _).mono ?_
    rintro e w' ⟨rfl, rfl⟩
    go_wp2_with fail
    go_ret
    exact ⟨rfl, o', cap', hE2, ((Only.refl _ _).setCell (p := ⟨h, 1, none⟩) (.inl (by simp)) _).trans hon (by simp), by rcases ho with h | h; exact .inl h; exact .inr (by simpa using h)⟩
  | true =>
    obtain ⟨hpf, hpr⟩ := s.pick_fits p true hs hp1 hp2
    have hmv := Lib.hid (fun w => rnext_any p true w hp1 hp2)
    rw [show bitI true = 1 from rfl]
    have hpk : s.pick p true = ⟨s.k, s.v + bnd, s.r - bnd⟩ := by rw [← HBN.out]; rfl
    rw [hpk] at hpf hpr ⊢
    have hadd := Lib.hid (radd_any h o cap s bnd w hE hblt (by omega))
    have hsub : (s.r : Int) - (bnd : Int) = ((s.r - bnd : Nat) : Int) := by omega
    go_enter Try.func9, Try.ntmps9
    go_wp2_with fail
    refine (hv.out _).mono ?_
    rintro e w' ⟨rfl, rfl⟩
    go_wp2_with fail
    refine hadd.out.mono ?_
    rintro e w1 ⟨rfl, o1, cap1, hEa, hona, hoa⟩
    have d1 := cell21_of hEa.blk
    have e1 := frozen_of_row w1 h 1 _ _ hEa.blk
    have hE1 : RefAt (w1.setCell ⟨h, 1, none⟩ (.int .u64 ((s.r - bnd : Nat) : Int))) h o1 cap1 ⟨s.k, s.v + bnd, s.r - bnd⟩ := ⟨blk2_set1 hEa.blk _, own_other hEa.own hEa.ne _, hEa.ne⟩
    have hsh := Lib.hid (rscale_any 2 h o1 cap1 ⟨s.k, s.v + bnd, s.r - bnd⟩ _ hE1 hpf (by show 4 + s.k + 2 ≤ _; exact hk) (by show 16777216 ≤ (s.r - bnd) * 256 ^ 2; have : 8192 ≤ s.r - bnd := hpr; omega))
    simp only at d1
    go_wp2_with fail
    refine hsh.out.mono ?_
    rintro e w2 ⟨rfl, o', cap', hE2, hon, ho⟩
    go_wp2_with fail
    refine (hmv.out _).mono ?_
    rintro e w' ⟨rfl, rfl⟩
    go_wp2_with fail
    go_ret
    have hsz := hona.size
    refine ⟨rfl, o', cap', hE2, (hona.setCell (p := ⟨h, 1, none⟩) (.inl (by simp)) _).trans hon (by simp), ?_⟩
    rcases ho with h1 | h1
    · rw [h1]; exact hoa
    · exact .inr (by simp at h1; omega)

def RNewDone (w : World) (e : Ending) (w' : World) : Prop := ∃ h o cap, e = .returned (.pointer (some ⟨h, 0, none⟩)) ∧ RefAt w' h o cap st0 ∧ Below w.heap.size w w' ∧ w.heap.size ≤ h ∧ w.heap.size ≤ o

set_option maxRecDepth 100000 in
set_option maxHeartbeats 400000 in
theorem rnew_any (w : World) : Calls Try.prog 7 #[] w (RNewDone w) := by
  obtain ⟨i, hi, hz0, hz1, hz2⟩ := info_parts info8
  go_enter Try.func7, Try.ntmps7
  go_wp2_with (refine wpList_make_full _ rfl _ _ 38 rfl w.heap.size 5 i (.int .u8 0) 1 Try.underlying38 hi hz0 hz1 _ _ _ _ 4 rfl rfl rfl rfl (by rw [hz2]; omega) (by unfold maxLen; omega) (Nat.le_refl _) ?_; intro w1 hown1 hg1)
  have hb1 : Below w.heap.size w w1 := below_grown (Below.refl _ _) hg1 (Nat.le_refl _) (by simp)
  have hsz := hb1.size
  have hlt := (World.ownsRow.lt hown1 w.heap.size rfl).2
  go_ret
  refine ⟨w1.heap.size, w.heap.size, 4, rfl, ⟨heap_alloc_new w1 _, ?_, by omega⟩, hb1.alloc hsz _, hsz, Nat.le_refl _⟩
  refine World.ownsRow.alloc ?_ _
  show World.ownsRow _ 0 _ 1 (.slice (some ⟨w.heap.size, 0, none⟩) (4 + 0) 4) (4 + 0) ((Rc.be (4 + 0) 0).map B8)
  have e : (madeCells (Value.int .u8 0).cells (4 * 1)).toList = (Rc.be (4 + 0) 0).map B8 := by
    rw [Nat.mul_one, show (Value.int .u8 0).cells = #[Value.int .u8 0] from rfl, toList_madeCells_one]; rfl
  rw [← e]
  exact own_lower hown1 (Nat.zero_le _)
end Go.Proofs.Yteiglcgkhcmkeaa
