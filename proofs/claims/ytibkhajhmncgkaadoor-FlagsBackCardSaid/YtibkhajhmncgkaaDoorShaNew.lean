/- The walk over sha256.New. -/
import Derived.Test.YtibkhajhmncgkaaDoorShaPad
namespace Go.Proofs.YtibkhajhmncgkaaDoor
open Go.RowKit

def first8 : R8 := ⟨1779033703, 3144134277, 1013904242, 2773480762, 1359893119, 2600822924, 528734635, 1541459225⟩
def St.new : St := ⟨first8, List.replicate 64 0, 0⟩
def zeroH : Array Value := (List.replicate 8 (Value.int .u32 0) ++ (List.replicate 64 (Value.int .u8 0) ++ [Value.int .u64 0])).toArray
theorem infoH : (Tryd.prog.info? 85).map (fun i => (i.zero, i.size)) = some (some (.agg zeroH), 73) := by kernel_rfl
theorem zeroH_size : zeroH.size = 73 := by simp [zeroH]
theorem new_cells : ((((((((zeroH.setIfInBounds 0 (U32 first8.a)).setIfInBounds 1 (U32 first8.b)).setIfInBounds 2 (U32 first8.c)).setIfInBounds 3 (U32 first8.d)).setIfInBounds 4 (U32 first8.e)).setIfInBounds 5 (U32 first8.f)).setIfInBounds 6 (U32 first8.g)).setIfInBounds 7 (U32 first8.h)) = St.new.cells.toArray := by
  simp [zeroH, St.cells, St.new, B8, List.replicate]
set_option maxRecDepth 100000 in
set_option maxHeartbeats 1000000 in
theorem new_any (tt : TypeId) (fr : Nat × Nat) (w : World) (hf : w.heap[1]? = some (.cells first8.agg tt fr)) :
    Calls Tryd.prog 49 #[] w fun e w' => e = .returned (.pointer (some ⟨w.heap.size, 0, none⟩)) ∧ HashAt w' w.heap.size St.new ∧ Below w.heap.size w w' := by
  have hz := (zero_of_info infoH).1
  have hzs := zeroH_size
  have HNC := Lib.hid new_cells
  generalize zeroH = Z at *
  go_enter Tryd.func49, Tryd.ntmps49
  go_wp2_with (refine wpList_load_row rfl 82 _ rfl 1 rfl tt first8.agg _ _ hf Tryd.underlying82 rfl (by rw [zsize8]; rfl) ?_)
  rw [HNC.out]
  go_ret
  exact ⟨rfl, ⟨heap_alloc_last _ _, by simp [St.new]⟩, below_one _ _⟩
end Go.Proofs.YtibkhajhmncgkaaDoor
