/- The walk over Hash.Sum. -/
import Derived.Test.YtibkhajhmncgkaaDoorShaNew
namespace Go.Proofs.YtibkhajhmncgkaaDoor
open Go.RowKit

/-- A state's digest. -/
def digTo (r : R8) : Nat → List UInt8
  | 0 => []
  | k + 1 => digTo r k ++ be4 (r.get k)
theorem digTo_length (r : R8) (k : Nat) : (digTo r k).length = 4 * k := by
  induction k with
  | zero => rfl
  | succ k ih => simp only [digTo, List.length_append, ih, be4_length]; omega
def St.digest (s : St) : List UInt8 := digTo (s.puts (padding s.n)).ws 8
theorem digest_length (s : St) : s.digest.length = 32 := digTo_length _ 8
def zero32 : Array Value := (List.replicate 32 (Value.int .u8 0)).toArray
theorem info32 : (Tryd.prog.info? 58).map (fun i => (i.zero, i.size)) = some (some (.agg zero32), 32) := by kernel_rfl
theorem zsize32 : (Tryd.prog.info? 58).map (·.size) = some 32 := by kernel_rfl
theorem zsizeH : (Tryd.prog.info? 85).map (·.size) = some 73 := by kernel_rfl
theorem cut32 (g o : Nat) (h : o < 32) (w : World) : (Instr.sliceAt 58 (.pointer (some ⟨g, 0, none⟩)) (some (.int .i64 (o : Nat))) none none).run Tryd.prog w = .ok (.slice (some ⟨g, o, none⟩) (32 - o) (32 - o)) w := by
  have ha : Tryd.prog.arrayLen 58 = 32 := by kernel_rfl
  have hu : Tryd.prog.underlying 58 = some (.array (Tryd.prog.arrayLen 58) (Tryd.prog.elem 58)) := by kernel_rfl
  have hs : (sizeOf (Tryd.prog.elem 58)).run Tryd.prog w = .ok 1 w := by kernel_rfl
  rw [run_sliceAt_array_l w 58 ⟨g, 0, none⟩ hu .i64 (o : Nat) (by omega) (by rw [ha]; omega), hs, ha]
  simp only [Result.andThen, slicedAt, Int.toNat_natCast, Nat.mul_one]
  rw [if_neg (by omega), Addr.add_mid, Nat.zero_add]
theorem dig_next (r : R8) (k : Nat) (hk : k < 8) : layV ((digTo r k).map B8 ++ List.replicate (32 - 4 * k) (Value.int .u8 0)) (4 * k) ((be4 (r.get k)).map B8) = (digTo r (k + 1)).map B8 ++ List.replicate (32 - 4 * (k + 1)) (Value.int .u8 0) := by
  have hl := digTo_length r k
  obtain ⟨m, hm⟩ : ∃ m, 32 - 4 * k = 4 + m := ⟨28 - 4 * k, by omega⟩
  unfold layV
  rw [List.length_map, be4_length, List.take_append_of_le_length (by simp [hl]), List.take_of_length_le (by simp [hl]), List.drop_append, hm]
  simp only [digTo, List.map_append, List.append_assoc, List.length_map, hl]
  rw [List.drop_eq_nil_of_le (by simp [hl]), show 4 * k + 4 - 4 * k = 4 by omega, show 32 - 4 * (k + 1) = m by omega]
  simp
end Go.Proofs.YtibkhajhmncgkaaDoor
