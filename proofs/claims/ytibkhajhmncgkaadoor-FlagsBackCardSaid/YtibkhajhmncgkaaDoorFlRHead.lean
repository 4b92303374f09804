/- The reference's head. -/
import Derived.Test.YtibkhajhmncgkaaDoorFlFoot
namespace Go.Proofs.YtibkhajhmncgkaaDoor
open Go.RowKit

set_option maxRecDepth 100000 in
set_option maxHeartbeats 1000000 in
theorem rhead_any (b : UInt8) (w : World) : Calls Tryd.prog 14 #[.int .i64 (b.toNat : Nat)] w (OwnDone w (headL b)) := by
  have hbt := b.toNat_lt
  have hb0 : (0 : Int) ≤ (b.toNat : Int) := by omega
  have hb1 : (b.toNat : Int) < 256 := by omega
  have HLL : Hid ([253, 55, 122, 88, 90, 0, 0, b] ++ sumB 1 [0, b] = headL b) := Lib.hid (by simp [headL, magicH])
  have HSL := Lib.hid (sum1_length [0, b])
  have hwr : IntKind.u8.wrap (b.toNat : Int) = (b.toNat : Int) := by rw [IntKind.wrap_u8]; omega
  generalize headL b = HL at *
  have ho1 : Own w.heap.size (w.alloc (.cells #[.int .u8 253, .int .u8 55, .int .u8 122, .int .u8 88, .int .u8 90, .int .u8 0, .int .u8 0, B8 b] 5)) (.slice (some ⟨w.heap.size, 0, none⟩) 8 8) [253, 55, 122, 88, 90, 0, 0, b] := Own.lit (base := w.heap.size) w [253, 55, 122, 88, 90, 0, 0, b] (Nat.le_refl _) (by simp)
  have hb1' := below_one w (.cells #[.int .u8 253, .int .u8 55, .int .u8 122, .int .u8 88, .int .u8 90, .int .u8 0, .int .u8 0, B8 b] 5)
  go_enter Tryd.func14, Tryd.ntmps14
  go_wp2_with fail
  have e1 : (w.alloc (.cells #[.int .u8 253, .int .u8 55, .int .u8 122, .int .u8 88, .int .u8 90, .int .u8 0, .int .u8 0, B8 b] 5)).heap.size = w.heap.size + 1 := by simp
  generalize w.alloc (.cells #[.int .u8 253, .int .u8 55, .int .u8 122, .int .u8 88, .int .u8 90, .int .u8 0, .int .u8 0, B8 b] 5) = w1 at *
  have hal := below_one w1 (.cells #[.int .u8 0, B8 b] 5)
  have hB2 : Bytes (w1.alloc (.cells #[.int .u8 0, B8 b] 5)) (some ⟨w1.heap.size, 0, none⟩) [0, b] := by
    obtain ⟨A, c, e, _, _, h⟩ := (Own.lit (base := w1.heap.size) w1 [0, b] (Nat.le_refl _) (by simp)).read
    injection e with e1 _ _; subst e1; exact h
  rw [e1] at hB2
  have ho2 := ho1.below hal
  have hb2 := hb1'.trans (hal.mono hb1'.size)
  have HC := Lib.hid (rchk1_any (some ⟨w.heap.size + 1, 0, none⟩) [0, b] 2 _ hB2 (by simp))
  clear ho1 hal hB2 e1
  refine HC.out.mono ?_
  rintro e w3 ⟨v3, rfl, ho3, hb3⟩
  obtain ⟨A3, c3, rfl, hc3, hm3, hB3⟩ := ho3.read
  have ho4 := ho2.below hb3
  have hb4 := hb2.trans (hb3.mono hb2.size)
  have hsz : ([253, 55, 122, 88, 90, 0, 0, b] : List UInt8).length + (sumB 1 [0, b]).length ≤ 140737488355328 := by rw [HSL.out]; simp
  clear ho2 ho3
  go_wp2_with (refine wpList_append_bytes rfl _ _ rfl w.heap.size _ (.slice (some ⟨w.heap.size, 0, none⟩) 8 8) [253, 55, 122, 88, 90, 0, 0, b] rfl ho4 A3 (sumB 1 [0, b]) c3 rfl hB3 hsz hb4.size ?_; intro v5 w5 ho5 hg5; rw [HLL.out] at ho5; have hb5 := below_grown hb4 hg5 hb4.size (fun g e => (World.ownsRow.lt ho4 g e).1))
  go_ret
  exact ⟨v5, rfl, ho5, hb5⟩

end Go.Proofs.YtibkhajhmncgkaaDoor
