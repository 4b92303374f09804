/- Feet as they are written, and the reference's head and foot. -/
import Derived.Test.YtibkhajhmncgkaaDoorFlHead
namespace Go.Proofs.YtibkhajhmncgkaaDoor
open Go.RowKit

def bodyL (b : UInt8) (n : Nat) : List UInt8 := lowB n 4 ++ [0, b]
def footL (b : UInt8) (n : Nat) : List UInt8 := sumB 1 (bodyL b n) ++ bodyL b n ++ [89, 90]
theorem bodyL_length (b : UInt8) (n : Nat) : (bodyL b n).length = 6 := by unfold bodyL; simp [lowB_length]
theorem sum1_length (l : List UInt8) : (sumB 1 l).length = 4 := sumB_length 1 l
theorem footL_length (b : UInt8) (n : Nat) : (footL b n).length = 12 := by unfold footL; simp [sum1_length, bodyL_length]
theorem Bytes.two (w : World) (a b : UInt8) : Bytes (w.alloc (.cells #[B8 a, B8 b] 5)) (some ⟨w.heap.size, 0, none⟩) [a, b] := by
  obtain ⟨A, c, e, _, _, h⟩ := (Own.lit (base := w.heap.size) w [a, b] (Nat.le_refl _) (by simp)).read
  injection e with e1 _ _; subst e1; exact h
theorem Own.weaken {base base' : Nat} {w : World} {v : Value} {l : List UInt8} (h : Own base w v l) (hb : base' ≤ base) : Own base' w v l := by
  rcases h with ⟨h1, h2 | ⟨g, cap, cur, h2, h3, h4⟩⟩
  · exact ⟨h1, .inl h2⟩
  · exact ⟨h1, .inr ⟨g, cap, cur, h2, by omega, h4⟩⟩
/-- May an index's size be? -/
def sizeOk (s : Int) : Bool := decide (4 ≤ s) && (decide (s ≤ 17179869184) && decide (s % 4 = 0))

set_option maxRecDepth 100000 in
set_option maxHeartbeats 1000000 in
theorem foot_no (c s : Int) (w : World) (hlo : -9223372036854775808 ≤ s) (hhi : s ≤ 9223372036854775807) (h : fineB c = false ∨ sizeOk s = false) : Calls Tryd.prog 9 #[.int .i64 c, .int .i64 s] w (HeadNo w) := by
  have HF := Lib.hid (fine_any c w)
  by_cases hc : fineB c = false
  · rw [hc] at HF
    clear h hc
    go_enter Tryd.func9, Tryd.ntmps9
    go_wp2_with fail
    refine HF.out.mono ?_
    rintro e w1 ⟨rfl, hb1⟩
    go_wp2_with fail
    go_ret2
    exact ⟨rfl, hb1⟩
  have hc' : fineB c = true := by simpa using hc
  rw [hc'] at HF
  have hs : sizeOk s = false := by rcases h with h | h; exact absurd h hc; exact h
  clear h hc hc'
  simp [sizeOk] at hs
  by_cases h4 : s < 4
  · clear hs
    go_enter Tryd.func9, Tryd.ntmps9
    go_wp2_with fail
    refine HF.out.mono ?_
    rintro e w1 ⟨rfl, hb1⟩
    go_wp2_with fail
    go_ret2
    exact ⟨rfl, hb1⟩
  have h4' : 4 ≤ s := by omega
  by_cases hm : 17179869184 < s
  · clear hs h4
    go_enter Tryd.func9, Tryd.ntmps9
    go_wp2_with fail
    refine HF.out.mono ?_
    rintro e w1 ⟨rfl, hb1⟩
    go_wp2_with fail
    go_ret2
    exact ⟨rfl, hb1⟩
  have hm' : s ≤ 17179869184 := by omega
  have hmod : s % 4 ≠ 0 := by have := hs h4' hm'; omega
  have hmb : (s % 4 == 0) = false := by simpa using hmod
  have hmb2 : (s % 4 != 0) = true := by simpa using hmod
  have hs0 : 0 ≤ s := by omega
  clear hs h4 hm hmod
  go_enter Tryd.func9, Tryd.ntmps9
  go_wp2_with fail
  refine HF.out.mono ?_
  rintro e w1 ⟨rfl, hb1⟩
  go_wp2_with fail
  go_ret2
  exact ⟨rfl, hb1⟩

set_option maxRecDepth 100000 in
set_option maxHeartbeats 1000000 in
theorem foot_yes (b : UInt8) (n : Nat) (s : Int) (hs : s = 4 * ((n : Int) + 1)) (hn : n < 4294967296) (w : World) (hT : Tabs w) (hf : fineB (b.toNat : Nat) = true) : Calls Tryd.prog 9 #[.int .i64 (b.toNat : Nat), .int .i64 s] w (PairDone w (footL b n)) := by
  have HF := Lib.hid (fine_any (b.toNat : Nat) w)
  rw [hf] at HF
  have hbt := b.toNat_lt
  have hb0 : (0 : Int) ≤ (b.toNat : Int) := by omega
  have hb1 : (b.toNat : Int) < 256 := by omega
  have HT := Lib.hid hT
  have HLL : Hid (sumB 1 (bodyL b n) ++ bodyL b n ++ [89, 90] = footL b n) := Lib.hid rfl
  have HLN := Lib.hid (footL_length b n)
  have HBD : Hid (lowB n 4 ++ [0, b] = bodyL b n) := Lib.hid rfl
  have HBN := Lib.hid (bodyL_length b n)
  have HSL := Lib.hid (sum1_length (bodyL b n))
  have hq : s / 4 - 1 = (n : Int) := by omega
  have HLF : Hid (∀ w, Calls Tryd.prog 22 #[.int .u64 (s / 4 - 1), .int .i64 4] w (OwnDone w (lowB n 4))) := Lib.hid (fun w => by rw [hq]; exact leastFirst_any n 4 (by omega) (by omega) w)
  have HLW := Lib.hid (lowB_length 4 n)
  have hwr : IntKind.u8.wrap (b.toNat : Int) = (b.toNat : Int) := by rw [IntKind.wrap_u8]; omega
  have hs4 : 4 ≤ s := by omega
  have hsm : s ≤ 17179869184 := by omega
  have hs0 : 0 ≤ s := by omega
  have hmb : (s % 4 == 0) = true := by simp; omega
  have hmb2 : (s % 4 != 0) = false := by simp; omega
  generalize footL b n = FL at *
  generalize bodyL b n = BD at *
  generalize lowB n 4 = LW at *
  clear hT hf hs hn hq
  go_enter Tryd.func9, Tryd.ntmps9
  go_wp2_with fail
  refine HF.out.mono ?_
  rintro e w1 ⟨rfl, hb1⟩
  go_wp2_with fail
  refine (HLF.out w1).mono ?_
  rintro e w2 ⟨v2, rfl, ho2, hb2⟩
  have hb2' := hb1.trans (hb2.mono hb1.size)
  have hal := below_one w2 (.cells #[.int .u8 0, B8 b] 5)
  have ho3 := ho2.below hal
  have hB3 : Bytes (w2.alloc (.cells #[.int .u8 0, B8 b] 5)) (some ⟨w2.heap.size, 0, none⟩) [0, b] := by
    obtain ⟨A, c, e, _, _, h⟩ := (Own.lit (base := w2.heap.size) w2 [0, b] (Nat.le_refl _) (by simp)).read
    injection e with e1 _ _; subst e1; exact h
  have hb3 := hb2'.trans (hal.mono hb2'.size)
  have hs3 : w1.heap.size ≤ (w2.alloc (.cells #[.int .u8 0, B8 b] 5)).heap.size := Nat.le_trans hb2.size hal.size
  have hsz : LW.length + [0, b].length ≤ 140737488355328 := by rw [HLW.out]; simp
  clear ho2 hb2 hal
  go_wp2_with (refine wpList_append_bytes rfl _ _ rfl w1.heap.size _ v2 LW rfl ho3 _ [0, b] 2 rfl hB3 hsz hs3 ?_; intro v4 w4 ho4 hg4; rw [HBD.out] at ho4; have hb4 := below_grown hb3 hg4 hb3.size (fun g e => Nat.le_trans hb1.size (World.ownsRow.lt ho3 g e).1); obtain ⟨A4, c4, rfl, hc4, hm4, hB4⟩ := ho4.read)
  have HCK := Lib.hid (chk_any 1 A4 BD c4 w4 (HT.out.below hb4) hB4 hc4 hm4 (by rw [HBN.out]; omega))
  have HB4 := Lib.hid hB4
  clear ho4 ho3 hB3 hB4 hb3 hb2' hs3 hsz hg4
  refine HCK.out.mono ?_
  rintro e w5 ⟨A5, c5, rfl, hc5, hm5, hB5, hb5⟩
  have hb5' := hb4.trans (hb5.mono hb4.size)
  have HFM := Lib.hid (footMagic_any w5)
  rw [HSL.out]
  go_wp2_with fail
  refine HFM.out.mono ?_
  rintro e w6 ⟨v6, rfl, ho6, hb6⟩
  obtain ⟨A6, c6, rfl, _, _, hB6⟩ := ho6.read
  have hb6' := hb5'.trans (hb6.mono hb5'.size)
  have hal := below_one w6 (.cells #[.slice A5 4 c5, .slice A4 BD.length c4, .slice A6 2 c6] 22)
  have h0 := (hB5.below hb6).below hal
  have h1 := ((HB4.out.below hb5).below hb6).below hal
  have h2 := hB6.below hal
  have hc : ∀ i, (w6.alloc (.cells #[.slice A5 4 c5, .slice A4 BD.length c4, .slice A6 2 c6] 22)).cell? ⟨w6.heap.size, i, none⟩ = (#[.slice A5 4 c5, .slice A4 BD.length c4, .slice A6 2 c6] : Array Value)[i]? := fun i => cell_of_row _ _ _ _ _ _ (heap_alloc_last _ _)
  have hJ := Lib.hid (join3 (c0 := c5) (c1 := c4) (c2 := c6) (g := w6.heap.size) _ h0 h1 h2 ((hc 0).trans (by rw [HSL.out]; rfl)) (hc 1) (hc 2) FL HLL.out (by rw [HLN.out]; omega) (by rw [HLN.out]; omega))
  have hb7 := hb6'.trans (hal.mono hb6'.size)
  clear hc h0 h1 h2 hal hb6' ho6 hB6
  go_wp2_with fail
  generalize w6.alloc (.cells #[.slice A5 4 c5, .slice A4 BD.length c4, .slice A6 2 c6] 22) = w7 at *
  refine hJ.out.mono ?_
  rintro e w8 ⟨g, cap, rfl, q1, q2, q3, q4, q5, q6⟩
  go_wp2_with fail
  go_ret2
  exact ⟨g, cap, rfl, q1, q2, Nat.le_trans hb7.size q3, q4, q5, hb7.trans (q6.mono hb7.size)⟩

end Go.Proofs.YtibkhajhmncgkaaDoor
