/- The walk over sha256.putWord. -/
import Derived.Test.YtibkhajhmncgkaaDoorShaWrite
namespace Go.Proofs.YtibkhajhmncgkaaDoor
open Go.RowKit

/-- A word's four bytes, the highest first. -/
def be4 (x : BitVec 32) : List UInt8 := [UInt8.ofNat (x.toNat / 16777216 % 256), UInt8.ofNat (x.toNat / 65536 % 256), UInt8.ofNat (x.toNat / 256 % 256), UInt8.ofNat (x.toNat % 256)]
theorem of_mod (n : Nat) : ((UInt8.ofNat (n % 256)).toNat : Nat) = n % 256 := by
  have : n % 256 < 256 := by omega
  simp [Nat.mod_eq_of_lt this]
def layV (L : List Value) (o : Nat) (vs : List Value) : List Value := L.take o ++ (vs ++ L.drop (o + vs.length))
theorem set_one (R t : List Value) (a x : Value) (o : Nat) (h : R.length = o) : (R ++ a :: t).set o x = R ++ x :: t := by subst h; simp
theorem set4 (L : List Value) (o : Nat) (a b c d : Value) (h : o + 4 ≤ L.length) : ((((L.set o a).set (o + 1) b).set (o + 2) c).set (o + 3) d) = layV L o [a, b, c, d] := by
  have hl : (L.drop o).length = L.length - o := List.length_drop ..
  obtain ⟨x0, x1, x2, x3, t, e⟩ : ∃ x0 x1 x2 x3 t, L.drop o = x0 :: x1 :: x2 :: x3 :: t := by
    match hd : L.drop o with
    | x0 :: x1 :: x2 :: x3 :: t => exact ⟨x0, x1, x2, x3, t, rfl⟩
    | [] => rw [hd] at hl; simp at hl; omega
    | [_] => rw [hd] at hl; simp at hl; omega
    | [_, _] => rw [hd] at hl; simp at hl; omega
    | [_, _, _] => rw [hd] at hl; simp at hl; omega
  have hL : L = L.take o ++ x0 :: x1 :: x2 :: x3 :: t := by rw [← e, List.take_append_drop]
  have ht : (L.take o).length = o := by rw [List.length_take]; omega
  have hdr : L.drop (o + 4) = t := by rw [← List.drop_drop, e]; rfl
  unfold layV
  rw [show o + [a, b, c, d].length = o + 4 from rfl, hdr]
  generalize L.take o = R at *
  subst hL
  subst ht
  simp
theorem layV_length (L vs : List Value) (o : Nat) (h : o + vs.length ≤ L.length) : (layV L o vs).length = L.length := by
  unfold layV; simp; omega

set_option maxRecDepth 100000 in
set_option maxHeartbeats 1000000 in
theorem putWord_any (g off n c : Nat) (x : BitVec 32) (L : List Value) (t : TypeId) (w : World) (hg : w.heap[g]? = some (.cells L.toArray t (0, 0))) (h4 : off + 4 ≤ L.length) (hn : 4 ≤ n) :
    Calls Tryd.prog 61 #[.slice (some ⟨g, off, none⟩) n c, .int .u32 x.toNat] w fun e w' => e = .returned (.tuple #[]) ∧ w'.heap[g]? = some (.cells (layV L off ((be4 x).map B8)).toArray t (0, 0)) ∧ Only [g] w w' := by
  have hx := x.isLt
  have hc : ∀ j, j < L.length → ∃ v, w.cell? ⟨g, j, none⟩ = some v := fun j hj => ⟨_, by rw [cell_of_row _ _ _ _ _ _ hg, List.getElem?_toArray, List.getElem?_eq_getElem hj]⟩
  have hf : ∀ j, w.frozen? ⟨g, j, none⟩ = false := fun j => by simp [World.frozen?, hg]
  obtain ⟨y0, h0⟩ := hc off (by omega)
  obtain ⟨y1, h1⟩ := hc (off + 1) (by omega)
  obtain ⟨y2, h2⟩ := hc (off + 2) (by omega)
  obtain ⟨y3, h3⟩ := hc (off + 3) (by omega)
  have f0 := hf off
  have f1 := hf (off + 1)
  have f2 := hf (off + 2)
  have f3 := hf (off + 3)
  have hbe : be4 x = [UInt8.ofNat (x.toNat / 16777216 % 256), UInt8.ofNat (x.toNat / 65536 % 256), UInt8.ofNat (x.toNat / 256 % 256), UInt8.ofNat (x.toNat % 256)] := rfl
  have e0 : (x.toNat : Int) / 16777216 % 256 = ((UInt8.ofNat (x.toNat / 16777216 % 256)).toNat : Int) := by rw [of_mod (x.toNat / 16777216)]; omega
  have e0' : (x.toNat : Int) / 16777216 = ((UInt8.ofNat (x.toNat / 16777216 % 256)).toNat : Int) := by rw [of_mod (x.toNat / 16777216)]; omega
  have e1 : (x.toNat : Int) / 65536 % 256 = ((UInt8.ofNat (x.toNat / 65536 % 256)).toNat : Int) := by rw [of_mod (x.toNat / 65536)]; omega
  have e2 : (x.toNat : Int) / 256 % 256 = ((UInt8.ofNat (x.toNat / 256 % 256)).toNat : Int) := by rw [of_mod (x.toNat / 256)]; omega
  have e3 : (x.toNat : Int) % 256 = ((UInt8.ofNat (x.toNat % 256)).toNat : Int) := by rw [of_mod x.toNat]; omega
  generalize UInt8.ofNat (x.toNat / 16777216 % 256) = b0 at *
  generalize UInt8.ofNat (x.toNat / 65536 % 256) = b1 at *
  generalize UInt8.ofNat (x.toNat / 256 % 256) = b2 at *
  generalize UInt8.ofNat (x.toNat % 256) = b3 at *
  have q0 := heap_set hg off (B8 b0)
  have q1 := heap_set q0 (off + 1) (B8 b1)
  have q2 := heap_set q1 (off + 2) (B8 b2)
  have q3 := heap_set q2 (off + 3) (B8 b3)
  rw [set4 L off _ _ _ _ h4] at q3
  have HQ := Lib.hid q3
  have hon : Only [g] w ((((w.setCell ⟨g, off, none⟩ (B8 b0)).setCell ⟨g, off + 1, none⟩ (B8 b1)).setCell ⟨g, off + 2, none⟩ (B8 b2)).setCell ⟨g, off + 3, none⟩ (B8 b3)) :=
    ((((Only.refl [g] w).setCell (by simp) _).setCell (by simp) _).setCell (by simp) _).setCell (by simp) _
  rw [hbe]
  clear hbe hc hf hg q0 q1 q2 q3
  go_enter Tryd.func61, Tryd.ntmps61
  go_wp2_with fail
  go_end0
  exact ⟨rfl, HQ.out, hon⟩
end Go.Proofs.YtibkhajhmncgkaaDoor
