/- The reference's foot. -/
import Derived.Test.YtibkhajhmncgkaaDoorFlFoot
namespace Go.Proofs.YtibkhajhmncgkaaDoor
open Go.RowKit

set_option maxRecDepth 100000 in
set_option maxHeartbeats 1000000 in
theorem rfoot_any (b : UInt8) (n : Nat) (s : Int) (hs : s = 4 * ((n : Int) + 1)) (hn : n < 4294967296) (w : World) : Calls Tryd.prog 15 #[.int .i64 (b.toNat : Nat), .int .i64 s] w (OwnDone w (footL b n)) := by
  have hbt := b.toNat_lt
  have hb0 : (0 : Int) ≤ (b.toNat : Int) := by omega
  have hb1 : (b.toNat : Int) < 256 := by omega
  have HLL : Hid (sumB 1 (bodyL b n) ++ bodyL b n ++ [89, 90] = footL b n) := Lib.hid rfl
  have HBD : Hid (lowB n 4 ++ [0, b] = bodyL b n) := Lib.hid rfl
  have HBN := Lib.hid (bodyL_length b n)
  have HSL := Lib.hid (sum1_length (bodyL b n))
  have hq : s / 4 - 1 = (n : Int) := by omega
  have HLF : Hid (∀ w, Calls Tryd.prog 25 #[.int .u64 (s / 4 - 1), .int .i64 4] w (OwnDone w (lowB n 4))) := Lib.hid (fun w => by rw [hq]; exact low_any 4 n w (by omega) (by omega))
  have HLW := Lib.hid (lowB_length 4 n)
  have hwr : IntKind.u8.wrap (b.toNat : Int) = (b.toNat : Int) := by rw [IntKind.wrap_u8]; omega
  have hs0 : 0 ≤ s := by omega
  have hs4 : 4 ≤ s := by omega
  have hsm : s ≤ 17179869184 := by omega
  generalize footL b n = FL at *
  generalize bodyL b n = BD at *
  generalize lowB n 4 = LW at *
  clear hs hn hq
  go_enter Tryd.func15, Tryd.ntmps15
  go_wp2_with fail
  refine (HLF.out w).mono ?_
  rintro e w2 ⟨v2, rfl, ho2, hb2⟩
  have hal := below_one w2 (.cells #[.int .u8 0, B8 b] 5)
  have ho3 := ho2.below hal
  have hB3 : Bytes (w2.alloc (.cells #[.int .u8 0, B8 b] 5)) (some ⟨w2.heap.size, 0, none⟩) [0, b] := by
    obtain ⟨A, c, e, _, _, h⟩ := (Own.lit (base := w2.heap.size) w2 [0, b] (Nat.le_refl _) (by simp)).read
    injection e with e1 _ _; subst e1; exact h
  have hb3 := hb2.trans (hal.mono hb2.size)
  have hsz : LW.length + [0, b].length ≤ 140737488355328 := by rw [HLW.out]; simp
  clear ho2 hal
  go_wp2_with (refine wpList_append_bytes rfl _ _ rfl w.heap.size _ v2 LW rfl ho3 _ [0, b] 2 rfl hB3 hsz hb3.size ?_; intro v4 w4 ho4 hg4; rw [HBD.out] at ho4; have hb4 := below_grown hb3 hg4 hb3.size (fun g e => (World.ownsRow.lt ho3 g e).1); obtain ⟨A4, c4, rfl, hc4, hm4, hB4⟩ := ho4.read)
  have HCK := Lib.hid (rchk1_any A4 BD c4 w4 hB4 (by rw [HBN.out]; omega))
  have HB4 := Lib.hid hB4
  clear ho4 ho3 hB3 hB4 hb3 hsz hg4
  refine HCK.out.mono ?_
  rintro e w5 ⟨v5, rfl, ho5, hb5⟩
  have hb5' := hb4.trans (hb5.mono hb4.size)
  have hB5 := HB4.out.below hb5
  have hsz5 : (sumB 1 BD).length + BD.length ≤ 140737488355328 := by rw [HSL.out, HBN.out]; omega
  go_wp2_with (first
    | (refine wpList_append_bytes rfl _ _ rfl w4.heap.size _ v5 (sumB 1 BD) rfl ho5 A4 BD c4 rfl hB5 hsz5 hb5.size ?_; intro v6 w6 ho6 hg6; have hb6 := below_grown hb5' hg6 hb5'.size (fun g e => Nat.le_trans hb4.size (World.ownsRow.lt ho5 g e).1); have hs6 : w4.heap.size ≤ w6.heap.size := Nat.le_trans hb5.size hg6.size; have hal := below_one w6 (.cells #[.int .u8 89, .int .u8 90] 5); have ho7 := ho6.below hal; have hb7 := hb6.trans (hal.mono hb6.size); have hs7 := Nat.le_trans hs6 hal.size; have hB7 : Bytes (w6.alloc (.cells #[.int .u8 89, .int .u8 90] 5)) (some ⟨w6.heap.size, 0, none⟩) [89, 90] := Bytes.two w6 89 90; have hsz7 : (sumB 1 BD ++ BD).length + [(89 : UInt8), 90].length ≤ 140737488355328 := by (rw [List.length_append, HSL.out, HBN.out]; simp))
    | (refine wpList_append_bytes rfl _ _ rfl w4.heap.size _ v6 (sumB 1 BD ++ BD) rfl ho7 _ [89, 90] 2 rfl hB7 hsz7 hs7 ?_; intro v8 w8 ho8 hg8; rw [HLL.out] at ho8; have hb8 := below_grown hb7 hg8 hb7.size (fun g e => Nat.le_trans hb4.size (World.ownsRow.lt ho7 g e).1)))
  go_ret
  exact ⟨v8, rfl, ho8.weaken hb4.size, hb8⟩
end Go.Proofs.YtibkhajhmncgkaaDoor
