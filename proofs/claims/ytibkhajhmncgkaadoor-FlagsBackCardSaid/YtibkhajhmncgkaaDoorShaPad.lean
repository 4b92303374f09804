/- The walk over Hash.pad. -/
import Derived.Test.YtibkhajhmncgkaaDoorShaPut
namespace Go.Proofs.YtibkhajhmncgkaaDoor
open Go.RowKit

def zerosOf (n : Nat) : Nat := (119 - n % 64) % 64
/-- What is written behind the bytes. -/
def padding (n : Nat) : List UInt8 := 128 :: (List.replicate (zerosOf n) 0 ++ (be4 (BitVec.ofNat 32 (8 * n / 4294967296)) ++ be4 (BitVec.ofNat 32 (8 * n))))
theorem zerosOf_lt (n : Nat) : zerosOf n < 64 := by unfold zerosOf; omega
theorem be4_length (x : BitVec 32) : (be4 x).length = 4 := rfl
theorem padding_length (n : Nat) : (padding n).length = 9 + zerosOf n := by unfold padding; simp [be4_length]; omega
theorem heap_of_full {w : World} {base n : Nat} {t : TypeId} {g : Nat} {xs : List Value} (h : w.ownsRow base t 1 (.slice (some ⟨g, 0, none⟩) n n) n xs) : w.heap[g]? = some (.cells xs.toArray t (0, 0)) := by
  obtain ⟨hl, ⟨h, _⟩ | ⟨g', cap, cur, e, _, hg, _, _, hsz, ht⟩⟩ := h
  · cases h
  · injection e with e1 _ e3
    injection e1 with e1
    injection e1 with e1
    subst e1; subst e3
    rw [Nat.mul_one] at hl hsz ht
    have : cur.toList = xs := by rw [← ht, List.take_of_length_le (by simp; omega)]
    rw [hg, ← this]
theorem madeZ (n : Nat) : (madeCells (Value.int .u8 0).cells (n * 1)).toList = List.replicate n (Value.int .u8 0) := by
  rw [Nat.mul_one, show (Value.int .u8 0).cells = #[Value.int .u8 0] from rfl, toList_madeCells_one]
theorem pad_list (z : Nat) (x y : BitVec 32) : layV (layV ((List.replicate (1 + z + 8) (Value.int .u8 0)).set 0 (.int .u8 128)) (1 + z) ((be4 x).map B8)) (1 + z + 4) ((be4 y).map B8) = (128 :: (List.replicate z 0 ++ (be4 x ++ be4 y)) : List UInt8).map B8 := by
  have e : (List.replicate (1 + z + 8) (Value.int .u8 0)).set 0 (.int .u8 128) = (.int .u8 128 : Value) :: (List.replicate z (.int .u8 0) ++ List.replicate 8 (.int .u8 0)) := by
    rw [show 1 + z + 8 = (z + 8) + 1 by omega, List.replicate_succ, List.set_cons_zero, ← List.replicate_append_replicate]
  rw [e]
  have h1 : layV ((.int .u8 128 : Value) :: (List.replicate z (.int .u8 0) ++ List.replicate 8 (.int .u8 0))) (1 + z) ((be4 x).map B8) = (.int .u8 128 : Value) :: (List.replicate z (.int .u8 0) ++ ((be4 x).map B8 ++ List.replicate 4 (.int .u8 0))) := by
    unfold layV
    rw [List.length_map, be4_length, show 1 + z = z + 1 by omega, show z + 1 + 4 = (z + 4) + 1 by omega, List.take_succ_cons, List.drop_succ_cons, List.take_append_of_le_length (by simp), List.drop_append]
    simp [List.take_of_length_le]
  rw [h1]
  unfold layV
  rw [List.length_map, be4_length, show 1 + z + 4 = (z + 4) + 1 by omega, show z + 4 + 1 + 4 = (z + 8) + 1 by omega, List.take_succ_cons, List.drop_succ_cons, List.take_append, List.drop_append]
  simp [be4_length, List.drop_eq_nil_of_le, List.take_of_length_le]

theorem made_cell {w : World} {g n : Nat} {t : TypeId} (h : w.heap[g]? = some (.cells (List.replicate n (Value.int .u8 0)).toArray t (0, 0))) (hn : 0 < n) : w.cell? ⟨g, 0, none⟩ = some (.int .u8 0) := by
  rw [cell_of_row _ _ _ _ _ _ h, List.getElem?_toArray, List.getElem?_replicate, if_pos hn]
theorem free_of_row {w : World} {g : Nat} {C : Array Value} {t : TypeId} (h : w.heap[g]? = some (.cells C t (0, 0))) (j : Nat) : w.frozen? ⟨g, j, none⟩ = false := by simp [World.frozen?, h]
theorem lt_of_heap {w : World} {g : Nat} {o : Obj} (h : w.heap[g]? = some o) : g < w.heap.size := by
  rcases Nat.lt_or_ge g w.heap.size with h' | h'
  · exact h'
  · rw [Array.getElem?_eq_none h'] at h; cases h
set_option maxRecDepth 100000 in
set_option maxHeartbeats 2000000 in
theorem pad_any (g : Nat) (s : St) (w : World) (hH : HashAt w g s) (hg : g < w.heap.size) (hK : ∀ i, i < 64 → w.cell? ⟨2, i, none⟩ = some (U32 (Kc i))) (h1 : 2 < g) (hn : s.n ≤ 100000000) :
    Calls Tryd.prog 60 #[.pointer (some ⟨g, 0, none⟩)] w fun e w' => e = .returned (.tuple #[]) ∧ HashAt w' g (s.puts (padding s.n)) ∧ Only [g] w w' := by
  obtain ⟨i, hi, hz0, hz1, hz2⟩ := info_parts info8
  have hc72 := (hH.cellAt 72).trans (s.cell_n hH.len)
  have hz : (119 - (s.n : Int) % 64) % 64 = ((zerosOf s.n : Nat) : Int) := by unfold zerosOf; omega
  have hzl := zerosOf_lt s.n
  have hpl := padding_length s.n
  have HPAD : Hid (padding s.n = 128 :: (List.replicate (zerosOf s.n) 0 ++ (be4 (BitVec.ofNat 32 (8 * s.n / 4294967296)) ++ be4 (BitVec.ofNat 32 (8 * s.n))))) := Lib.hid rfl
  have hx0 : ((BitVec.ofNat 32 (8 * s.n / 4294967296)).toNat : Int) = (s.n : Int) * 8 / 4294967296 := by rw [BitVec.toNat_ofNat]; omega
  have hx1 : ((BitVec.ofNat 32 (8 * s.n)).toNat : Int) = (s.n : Int) * 8 := by rw [BitVec.toNat_ofNat]; omega
  generalize BitVec.ofNat 32 (8 * s.n / 4294967296) = x0 at *
  generalize BitVec.ofNat 32 (8 * s.n) = x1 at *
  generalize zerosOf s.n = z at *
  have HX0 := Lib.hid hx0
  have HX1 := Lib.hid hx1
  have HK := Lib.hid hK
  have HZ := Lib.hid hz
  have hnn : (s.n : Int) ≤ 100000000 := by omega
  have hn0 : (0 : Int) ≤ (s.n : Int) := by omega
  have hmk : i.bytes * (1 + z + 8) ≤ 281474976710656 := by rw [hz2]; omega
  have hml : 1 + z + 8 ≤ maxLen := by unfold maxLen; omega
  clear hx0 hx1 hK hn
  go_enter Tryd.func60, Tryd.ntmps60
  go_wp2_with (refine wpList_make_full _ rfl _ _ 22 rfl w.heap.size 5 i (.int .u8 0) 1 Tryd.underlying22 hi hz0 hz1 _ _ _ _ (1 + z + 8) rfl rfl (by omega) (by omega) hmk hml (Nat.le_refl _) ?_; intro w1 hown1 hg1; rw [madeZ] at hown1; have hh1 := heap_of_full hown1; have c0 := made_cell hh1 (by omega); have f0 := free_of_row hh1 0)
  have hb1 : Below w.heap.size w w1 := below_grown (Below.refl _ _) hg1 (Nat.le_refl _) (by simp)
  have hh2 := heap_set hh1 0 (.int .u8 128)
  have hb2 := hb1.setCell (p := ⟨w.heap.size, 0, none⟩) (Nat.le_refl _) (.int .u8 128)
  have hs2 : w.heap.size < (w1.setCell ⟨w.heap.size, 0, none⟩ (.int .u8 128)).heap.size := lt_of_heap hh2
  clear hh1 c0 f0 hown1 hg1 hb1
  generalize w1.setCell ⟨w.heap.size, 0, none⟩ (.int .u8 128) = w2 at *
  rw [← HX0.out]
  refine (putWord_any _ _ _ _ x0 _ _ w2 hh2 (by simp) (by omega)).mono ?_
  rintro e w3 ⟨rfl, hh3, ho3⟩
  go_wp2_with fail
  rw [← HX1.out]
  refine (putWord_any _ _ _ _ x1 _ _ w3 hh3 (by rw [layV_length _ _ _ (by simp [be4_length])]; simp) (by omega)).mono ?_
  rintro e w4 ⟨rfl, hh4, ho4⟩
  rw [pad_list, ← HPAD.out] at hh4
  have hb3 := hb2.trans (ho3.below (by omega) (by simp))
  have hb4 := hb3.trans (ho4.below hb3.size (by simp))
  have hH4 := hH.belowB hb4 hg
  have hB4 : Bytes w4 (some ⟨w.heap.size, 0, none⟩) (padding s.n) := by
    refine .inr ⟨_, _, rfl, lt_of_heap hh4, fun k hk => ?_⟩
    rw [cell_of_row _ _ _ _ _ _ hh4, Nat.zero_add, List.getElem?_toArray, List.getElem?_map, List.getElem?_eq_getElem hk]; rfl
  have e9 : 1 + z + 8 = (padding s.n).length := by omega
  have HWR := Lib.hid (write_any g s _ (padding s.n) (padding s.n).length w4 hH4 hB4 (fun _ a e => by injection e with e; subst e; simp; omega) (Nat.lt_of_lt_of_le hg hb4.size) (fun i hi => (hb4.cell (p := ⟨2, i, none⟩) (by show 2 < w.heap.size; omega)).trans (HK.out i hi)) h1 (Nat.le_refl _) (by omega) (by omega))
  have hon4 : Only [g] w w4 := ⟨hb4.os, hb4.tape, hb4.output, hb4.size, fun i hi _ => hb4.block i hi⟩
  have E9 := Lib.hid e9
  clear e9 hh3 hh4 ho3 ho4 hb3 hh2 hb2 hc72 hpl HPAD hB4 hH4
  go_wp2_with fail
  rw [E9.out]
  refine HWR.out.mono ?_
  rintro e w5 ⟨rfl, hH5, ho5⟩
  go_wp2_with fail
  go_end0
  exact ⟨rfl, hH5, hon4.trans ho5 (by simp)⟩
end Go.Proofs.YtibkhajhmncgkaaDoor
