/- The walk over sha256's knows. -/
import Derived.Test.YtcaalgibddgipaaDoorShaDig
namespace Go.Proofs.YtcaalgibddgipaaDoor
open Go.RowKit

set_option maxRecDepth 100000 in
set_option maxHeartbeats 1000000 in
theorem knows_any (w : World) (hT : Tabs w) : Calls Tryd.prog 5 #[] w (Holds w) := by
  have hz32 := (zero_of_info info32).1
  have hb1 := below_one w (.cells #[.int .u8 97, .int .u8 98, .int .u8 99] 5 (3, 3 + 1))
  have hB : Bytes (w.alloc (.cells #[.int .u8 97, .int .u8 98, .int .u8 99] 5 (3, 3 + 1))) (some ⟨w.heap.size, 0, none⟩) [97, 98, 99] := .inr ⟨_, _, rfl, by simp, fun k hk => by
    rw [cell_of_row _ _ _ _ _ _ (heap_alloc_last _ _)]
    match k, hk with | 0, _ | 1, _ | 2, _ => rfl⟩
  have HS := Lib.hid (sumOf_any (some ⟨w.heap.size, 0, none⟩) [97, 98, 99] 3 _ (hT.below hb1) hB (by simp) (by omega) (by simp))
  have HB1 := Lib.hid hb1
  clear hB hb1
  have kc := Lib.run_convert_bytes_const (P := Tryd.prog) w 22 5 #[.int .u8 97, .int .u8 98, .int .u8 99] 3 3 Tryd.underlying22 Tryd.underlying5
  rw [show (#[.int .u8 97, .int .u8 98, .int .u8 99] : Array Value).size = 3 from rfl] at kc
  go_enter Tryd.func5, Tryd.ntmps5
  go_wp2_with fail
  generalize w.alloc (.cells #[.int .u8 97, .int .u8 98, .int .u8 99] 5 (3, 3 + 1)) = w1 at *
  refine HS.out.mono ?_
  rintro e w2 ⟨rfl, hb2⟩
  have hbb : Below w.heap.size w w2 := HB1.out.trans (hb2.mono HB1.out.size)
  have hlast := heap_alloc_last w2 (.cells zero32 24)
  have hset := World.setRow_alloc_new w2 zero32 ((St.new.puts [97, 98, 99]).digest.map B8).toArray 24
  have hl8 : ((St.new.puts [97, 98, 99]).digest.map B8).length = 32 := by rw [List.length_map, digest_length]
  have hone : ((St.new.puts [97, 98, 99]).digest.map B8).toArray.all (·.oneCell') = true := all_oneCell_toArray (b8_one _)
  have hc : ∀ i, (w2.alloc (.cells ((St.new.puts [97, 98, 99]).digest.map B8).toArray 24)).cell? ⟨w2.heap.size, i, none⟩ = ((St.new.puts [97, 98, 99]).digest.map B8)[i]? := fun i => by
    rw [cell_of_row _ _ _ _ _ _ (heap_alloc_last _ _), List.getElem?_toArray]
  have d0 := (hc 0).trans (show ((St.new.puts [97, 98, 99]).digest.map B8)[0]? = some (.int .u8 186) by rw [abc_digest]; rfl)
  have d1 := (hc 1).trans (show ((St.new.puts [97, 98, 99]).digest.map B8)[1]? = some (.int .u8 120) by rw [abc_digest]; rfl)
  have d2 := (hc 2).trans (show ((St.new.puts [97, 98, 99]).digest.map B8)[2]? = some (.int .u8 22) by rw [abc_digest]; rfl)
  have d31 := (hc 31).trans (show ((St.new.puts [97, 98, 99]).digest.map B8)[31]? = some (.int .u8 173) by rw [abc_digest]; rfl)
  have hb3 := hbb.trans ((below_one w2 (.cells ((St.new.puts [97, 98, 99]).digest.map B8).toArray 24)).mono hbb.size)
  clear hc hbb hb2
  generalize (St.new.puts [97, 98, 99]).digest.map B8 = D8 at *
  have HSET := Lib.hid hset
  have hi : ((Tryd.prog.info? 24).map (·.size)) = some D8.toArray.size := by rw [zsize32]; simp [hl8]
  have hzz : D8.toArray.size = zero32.size := by simp [hl8, zero32]
  have HD0 := Lib.hid d0
  have HD1 := Lib.hid d1
  have HD2 := Lib.hid d2
  have HD31 := Lib.hid d31
  clear hset hl8 d0 d1 d2 d31
  go_wp2_with (refine wpList_store_row rfl 24 _ _ rfl w2.heap.size D8.toArray rfl rfl 24 zero32 hlast hi hzz.symm hone ?_; rw [HSET.out]; have e0 := HD0.out; have e1 := HD1.out; have e2 := HD2.out; have e31 := HD31.out; generalize w2.alloc (.cells D8.toArray 24) = w3 at *)
  go_ret
  exact ⟨rfl, hb3⟩
end Go.Proofs.YtcaalgibddgipaaDoor
