/- bytes.Equal; what the head and the foot of any bytes are. -/
import Derived.Test.YtibkhajhmncgkaaDoorFlRHead
import Derived.Test.YtibkhajhmncgkaaDoorFlRFoot
namespace Go.Proofs.YtibkhajhmncgkaaDoor
open Go.RowKit

theorem equal_any (A B : Option Addr) (l m : List UInt8) (c d : Nat) (w : World) (h1 : Bytes w A l) (h2 : Bytes w B m) : Calls Tryd.prog 29 #[.slice A l.length c, .slice B m.length d] w fun e w' => e = .returned (.bool (l == m)) ∧ w = w' := by
  refine (Shelf_bytes_Equal_strs (.slice A l.length c) (.slice B m.length d) ⟨l.toArray⟩ ⟨m.toArray⟩ w (run_str h1 c) (run_str h2 d)).mono fun e w' h => ?_
  obtain ⟨rfl, rfl⟩ := h
  rw [ByteArray.toList_mk, ByteArray.toList_mk]
  exact ⟨rfl, rfl⟩

/-- Two bytes' flags: the check, and an error's number. -/
def flagsR (x y : UInt8) : Int × Int := if x = 0 ∧ fineB (y.toNat : Nat) = true then ((y.toNat : Int), 0) else (0, 5)
def part (l : List UInt8) (a n : Nat) : List UInt8 := (l.drop a).take n
theorem part_length (l : List UInt8) (a n : Nat) (h : a + n ≤ l.length) : (part l a n).length = n := by unfold part; rw [List.length_take, List.length_drop]; omega
theorem Bytes.part {w : World} {b off : Nat} {l : List UInt8} (h : Bytes w (some ⟨b, off, none⟩) l) (a n : Nat) : Bytes w (some ⟨b, off + a, none⟩) (part l a n) := (Bytes.drop a h).take n
def readHeadR (l : List UInt8) : Int × Int :=
  if l.length < 12 then (0, 2) else if (part l 0 6 == magicH) = false then (0, 3) else if (part l 8 4 == sumB 1 (part l 6 2)) = false then (0, 4) else flagsR (l.getD 6 0) (l.getD 7 0)
def readFootR (l : List UInt8) : Int × Int × Int :=
  if l.length < 12 then (0, 0, 2) else if (part l 10 2 == [89, 90]) = false then (0, 0, 3) else if (part l 0 4 == sumB 1 (part l 4 6)) = false then (0, 0, 4)
  else if (flagsR (l.getD 8 0) (l.getD 9 0)).2 ≠ 0 then (0, 0, (flagsR (l.getD 8 0) (l.getD 9 0)).2) else ((flagsR (l.getD 8 0) (l.getD 9 0)).1, 4 * (numB (part l 4 4) : Int) + 4, 0)
theorem part_get (l : List UInt8) (a n i : Nat) (h : i < (part l a n).length) : (part l a n)[i] = l.getD (a + i) 0 := by
  unfold part at h ⊢
  have h2 : a + i < l.length := by rw [List.length_take, List.length_drop] at h; omega
  rw [List.getElem_take, List.getElem_drop]; simp [List.getD, h2]
theorem part_two (l : List UInt8) (a : Nat) (h : a + 2 ≤ l.length) : part l a 2 = [l.getD a 0, l.getD (a + 1) 0] := by
  have hl := part_length l a 2 h
  refine List.ext_getElem (by rw [hl]; rfl) fun i h1 h2 => ?_
  rw [part_get]
  match i, h2 with
  | 0, _ | 1, _ => rfl
theorem part_four (l : List UInt8) (a : Nat) (h : a + 4 ≤ l.length) : part l a 4 = [l.getD a 0, l.getD (a + 1) 0, l.getD (a + 2) 0, l.getD (a + 3) 0] := by
  have hl := part_length l a 4 h
  refine List.ext_getElem (by rw [hl]; rfl) fun i h1 h2 => ?_
  rw [part_get]
  match i, h2 with
  | 0, _ | 1, _ | 2, _ | 3, _ => rfl

set_option maxRecDepth 100000 in
set_option maxHeartbeats 2000000 in
theorem readFlags_any (A : Option Addr) (x y : UInt8) (c : Nat) (w : World) (hB : Bytes w A [x, y]) : Calls Tryd.prog 30 #[.slice A 2 c] w fun e w' => e = .returned (.tuple #[.int .i64 (flagsR x y).1, .int .i64 (flagsR x y).2]) ∧ Below w.heap.size w w' := by
  obtain ⟨b, off, rfl, hlt, hcell⟩ := hB.addr (by simp)
  have k0 : w.cell? ⟨b, off + 0, none⟩ = some (B8 x) := hcell 0 (by simp)
  have k1 : w.cell? ⟨b, off + 1, none⟩ = some (B8 y) := hcell 1 (by simp)
  rw [Nat.add_zero] at k0
  have hy := y.toNat_lt
  have hy1 : (y.toNat : Int) < 256 := by omega
  have hy0 : (0 : Int) ≤ (y.toNat : Int) := by omega
  have HF := Lib.hid (fine_any (y.toNat : Nat) w)
  have hfl : flagsR x y = if x = 0 ∧ fineB (y.toNat : Nat) = true then ((y.toNat : Int), 0) else (0, 5) := rfl
  clear hcell hB
  by_cases hx : x = 0
  · subst hx
    cases hf : fineB (y.toNat : Nat) with
    | true =>
      have hr : flagsR 0 y = ((y.toNat : Int), 0) := by rw [hfl, if_pos ⟨rfl, hf⟩]
      rw [hf] at HF
      rw [hr]
      clear hr hfl hf
      have k0' : w.cell? ⟨b, off, none⟩ = some (.int .u8 0) := k0
      clear k0
      go_enter Tryd.func30, Tryd.ntmps30
      go_wp2_with fail
      refine HF.out.mono ?_
      rintro e w1 ⟨rfl, hb1⟩
      go_wp2_with fail
      go_ret2
      exact ⟨rfl, hb1⟩
    | false =>
      have hr : flagsR 0 y = (0, 5) := by rw [hfl, if_neg (by rw [hf]; simp)]
      rw [hf] at HF
      rw [hr]
      clear hr hfl hf
      have k0' : w.cell? ⟨b, off, none⟩ = some (.int .u8 0) := k0
      clear k0
      go_enter Tryd.func30, Tryd.ntmps30
      go_wp2_with fail
      refine HF.out.mono ?_
      rintro e w1 ⟨rfl, hb1⟩
      go_wp2_with fail
      go_ret2
      exact ⟨rfl, hb1⟩
  · have hr : flagsR x y = (0, 5) := by rw [hfl, if_neg (fun h => hx h.1)]
    rw [hr]
    have hx0 : (x.toNat : Int) ≠ 0 := fun h => hx (UInt8.toNat_inj.1 (by simpa using h))
    have hxb : ((x.toNat : Int) == 0) = false := by simpa using hx0
    clear hr hfl hx
    go_enter Tryd.func30, Tryd.ntmps30
    go_wp2_with fail
    go_ret2
    exact ⟨rfl, Below.refl _ _⟩

set_option maxRecDepth 100000 in
set_option maxHeartbeats 2000000 in
theorem rflags_any (A : Option Addr) (x y : UInt8) (c : Nat) (w : World) (hB : Bytes w A [x, y]) : Calls Tryd.prog 31 #[.slice A 2 c] w fun e w' => e = .returned (.tuple #[.int .i64 (flagsR x y).1, .int .i64 (flagsR x y).2]) ∧ w = w' := by
  obtain ⟨b, off, rfl, hlt, hcell⟩ := hB.addr (by simp)
  have k0 : w.cell? ⟨b, off + 0, none⟩ = some (B8 x) := hcell 0 (by simp)
  have k1 : w.cell? ⟨b, off + 1, none⟩ = some (B8 y) := hcell 1 (by simp)
  rw [Nat.add_zero] at k0
  have hy := y.toNat_lt
  have hy1 : (y.toNat : Int) < 256 := by omega
  have hy0 : (0 : Int) ≤ (y.toNat : Int) := by omega
  have HF := Lib.hid (rsize_any (y.toNat : Nat) w)
  have hfl : flagsR x y = if x = 0 ∧ fineB (y.toNat : Nat) = true then ((y.toNat : Int), 0) else (0, 5) := rfl
  clear hcell hB
  by_cases hx : x = 0
  · subst hx
    have k0' : w.cell? ⟨b, off, none⟩ = some (.int .u8 0) := k0
    clear k0
    cases hf : fineB (y.toNat : Nat) with
    | true =>
      have hr : flagsR 0 y = ((y.toNat : Int), 0) := by rw [hfl, if_pos ⟨rfl, hf⟩]
      obtain ⟨z, hz⟩ : ∃ z, rsizeC (y.toNat : Nat) = z := ⟨_, rfl⟩
      have hz0 : 0 ≤ z := by rw [← hz]; unfold rsizeC; rw [hf]; simp
      rw [hz] at HF
      rw [hr]
      clear hr hfl hf hz
      go_enter Tryd.func31, Tryd.ntmps31
      go_wp2_with fail
      refine HF.out.mono ?_
      rintro e w1 ⟨rfl, rfl⟩
      go_wp2_with fail
      go_ret2
      exact ⟨rfl, rfl⟩
    | false =>
      have hr : flagsR 0 y = (0, 5) := by rw [hfl, if_neg (by rw [hf]; simp)]
      have hz : rsizeC (y.toNat : Nat) = -1 := by unfold rsizeC; rw [hf]; rfl
      rw [hz] at HF
      rw [hr]
      clear hr hfl hf hz
      go_enter Tryd.func31, Tryd.ntmps31
      go_wp2_with fail
      refine HF.out.mono ?_
      rintro e w1 ⟨rfl, rfl⟩
      go_wp2_with fail
      go_ret2
      exact ⟨rfl, rfl⟩
  · have hr : flagsR x y = (0, 5) := by rw [hfl, if_neg (fun h => hx h.1)]
    rw [hr]
    have hx0 : (x.toNat : Int) ≠ 0 := fun h => hx (UInt8.toNat_inj.1 (by simpa using h))
    have hx1 : (0 : Int) < (x.toNat : Int) := by omega
    clear hr hfl hx hx0
    go_enter Tryd.func31, Tryd.ntmps31
    go_wp2_with fail
    go_ret2
    exact ⟨rfl, rfl⟩
end Go.Proofs.YtibkhajhmncgkaaDoor
