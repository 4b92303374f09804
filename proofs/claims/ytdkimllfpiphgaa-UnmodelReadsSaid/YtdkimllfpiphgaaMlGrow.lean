/- Grow by a literal, whatever else the symbol says. -/
import Derived.Test.YtdkimllfpiphgaaCoGrow
namespace Go.Proofs.Ytdkimllfpiphgaa
open Go.RowKit

set_option maxRecDepth 100000 in
set_option maxHeartbeats 1000000 in
theorem grow_lit (A : Option Addr) (h : List UInt8) (c : Nat) (b : UInt8) (l d q : Int) (back : Nat) (w : World) (hB : Bytes w A h) (hc : h.length ≤ c) (hl : h.length ≤ 1000000) :
    Calls Try.prog 23 #[.slice A h.length c, SyV 0 b l d q, .int .i64 (back : Nat)] w (GrowDone (growS h 0 b 0 back) w) := by
  obtain ⟨W1, hW1⟩ : ∃ W1, w.alloc (.cells #[.int .i64 0, .int .u8 (b.toNat : Nat), .int .i64 l, .int .i64 d, .int .i64 q] 58) = W1 := ⟨_, rfl⟩
  obtain ⟨W2, hW2⟩ : ∃ W2, W1.alloc (.cells #[] 5) = W2 := ⟨_, rfl⟩
  obtain ⟨y0, y1, y2, y3, y4, hbb⟩ := sy_box hW1
  have hb2 : Below W1.heap.size W1 W2 := by rw [← hW2]; exact (Below.refl _ _).alloc (Nat.le_refl _) _
  have ho2 : Own W1.heap.size W2 (.slice (some ⟨W1.heap.size, 0, none⟩) 0 0) [] := by rw [← hW2]; exact empty_own W1
  have hbw2 : Below w.heap.size w W2 := hbb.trans (hb2.mono hbb.size)
  have HSZ : Hid (w.heap.size < W1.heap.size) := Lib.hid (by rw [← hW1]; simp)
  have HSY := Lib.hid (fun (W : World) (hb : Below W1.heap.size W1 W) => (show W.cell? ⟨w.heap.size, 0, none⟩ = some (.int .i64 0) ∧ W.cell? ⟨w.heap.size, 1, none⟩ = some (.int .u8 (b.toNat : Nat)) ∧ W.cell? ⟨w.heap.size, 2, none⟩ = some (.int .i64 l) from
    ⟨(hb.cell (p := ⟨w.heap.size, 0, none⟩) HSZ.out).trans y0, (hb.cell (p := ⟨w.heap.size, 1, none⟩) HSZ.out).trans y1, (hb.cell (p := ⟨w.heap.size, 2, none⟩) HSZ.out).trans y2⟩))
  have HW1 := Lib.hid hW1
  have HW2 := Lib.hid hW2
  have HO2 := Lib.hid ho2
  have HB2 := Lib.hid hb2
  have HBW2 := Lib.hid hbw2
  have HBW1 := Lib.hid hbb
  have HBY := Lib.hid (hB.below hbw2)
  have HL := Lib.hid hl
  clear hW1 hW2 y0 y1 y2 y3 y4 hbb hb2 ho2 hbw2 hB hl
  have hci : (h.length : Int) ≤ (c : Int) := by omega
  have hli : (h.length : Int) ≤ 1000000 := by have := HL.out; omega
  have e0 : growS h 0 b 0 back = h ++ [b] := by unfold growS; rw [if_pos rfl]
  rw [e0]
  obtain ⟨G, hG⟩ : ∃ G, h ++ [b] = G := ⟨_, rfl⟩
  rw [hG]
  have HG2 := Lib.hid hG.symm
  clear hG hc e0
  go_enter Try.func23, Try.ntmps23
  go_upto_region 1 with fail
  rw [HW1.out]
  go_upto_region 2 with (at_builtin; rw [HW2.out]; refine wpList_append_bytes rfl (.tmp 9) (.tmp 10) rfl W1.heap.size W2 _ [] rfl HO2.out A h c rfl HBY.out (by have := HL.out; simp; omega) HB2.out.size ?_; intro v1 w3 ho3 hg3; have HO3 := Lib.hid (show Own W1.heap.size w3 v1 h from ho3); have hb3 := below_grown HB2.out hg3 HB2.out.size (fun g e => (HO2.out.from_base g e).1); have HB3 := Lib.hid hb3; obtain ⟨s0, s1, s2⟩ := HSY.out w3 hb3; clear ho3 hg3 hb3)
  obtain ⟨A1, c1, rfl, hc1, hm1, hB1⟩ := HO3.out.read
  obtain ⟨W4, hW4⟩ : ∃ W4, w3.alloc (.cells #[.int .u8 (b.toNat : Nat)] 5) = W4 := ⟨_, rfl⟩
  have hb4 : Below W1.heap.size W1 W4 := by rw [← hW4]; exact HB3.out.alloc HB3.out.size _
  have ho4 : Own W1.heap.size W4 (.slice A1 h.length c1) h := by rw [← hW4]; exact HO3.out.alloc _
  have hx4 : Bytes W4 (some ⟨w3.heap.size, 0, none⟩) [b] := by rw [← hW4]; exact lit_bytes w3 b
  have HW4 := Lib.hid hW4
  have HB4 := Lib.hid hb4
  have HO4 := Lib.hid ho4
  have HX4 := Lib.hid hx4
  clear hW4 hb4 ho4 hx4 hB1
  go_wp2_with (at_builtin; rw [HW4.out]; refine wpList_append_bytes rfl (.tmp 15) (.tmp 18) rfl W1.heap.size W4 _ h rfl HO4.out (some ⟨w3.heap.size, 0, none⟩) [b] 1 rfl HX4.out (by have := HL.out; simp; omega) HB4.out.size ?_; intro v5 w5 ho5 hg5; have HO5 := Lib.hid (show Own W1.heap.size w5 v5 (h ++ [b]) from ho5); have HB5 := Lib.hid (below_grown HB4.out hg5 HB4.out.size (fun g e => (HO4.out.from_base g e).1)); clear ho5 hg5)
  go_ret
  exact ⟨_, rfl, by rw [HG2.out]; exact HO5.out.weaken (Nat.le_of_lt HSZ.out), HBW1.out.trans (HB5.out.mono HBW1.out.size)⟩
end Go.Proofs.Ytdkimllfpiphgaa
