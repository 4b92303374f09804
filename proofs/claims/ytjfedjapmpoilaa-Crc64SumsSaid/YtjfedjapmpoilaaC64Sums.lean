/- Crc64Sums: for every sum and any two pieces of bytes the law returns true, and its arguments read as before. -/
import Derived.Test.YtjfedjapmpoilaaC64Laws
namespace Go.Proofs.Ytjfedjapmpoilaa.C64
open Go.RowKit

theorem crcOf_append (s : BitVec 64) (a b : List UInt8) : crcOf (crcOf s a) b = crcOf s (a ++ b) := by
  unfold crcOf
  rw [Crc.eats_append, BitVec.not_not]

set_option maxRecDepth 100000 in
set_option maxHeartbeats 1000000 in
theorem sums_law (s : BitVec 64) (A1 : Option Addr) (l1 : List UInt8) (c1 : Nat) (A2 : Option Addr) (l2 : List UInt8) (c2 : Nat) (w : World) (hB1 : Bytes w A1 l1) (hc1 : l1.length ≤ c1) (hm1 : c1 ≤ 9223372036854775807)
    (hB2 : Bytes w A2 l2) (hc2 : l2.length ≤ c2) (hm2 : c2 ≤ 9223372036854775807) :
    Calls Try.prog 3 #[.int .u64 s.toNat, .slice A1 l1.length c1, .slice A2 l2.length c2] w (Holds w) := by
  by_cases h1 : 500 < l1.length
  · have h1' : (500 : Int) < l1.length := by omega
    go_enter Try.func3, Try.ntmps3
    go_wp2_with fail
    refine (knows_any _).mono ?_
    rintro e w' ⟨rfl, hb⟩
    go_wp2_with fail
    go_ret
    exact ⟨rfl, hb⟩
  · have h1' : (l1.length : Int) ≤ 500 := by omega
    by_cases h2 : 500 < l2.length
    · have h2' : (500 : Int) < l2.length := by omega
      go_enter Try.func3, Try.ntmps3
      go_wp2_with fail
      refine (knows_any _).mono ?_
      rintro e w' ⟨rfl, hb⟩
      go_wp2_with fail
      go_ret
      exact ⟨rfl, hb⟩
    · have h2' : (l2.length : Int) ≤ 500 := by omega
      have ho : Own w.heap.size (w.alloc (.cells #[] 5)) (.slice (some ⟨w.heap.size, 0, none⟩) 0 0) [] := Own.lit w [] (Nat.le_refl _) (by simp)
      have hb0 : Below w.heap.size w (w.alloc (.cells #[] 5)) := (Below.refl _ _).alloc (Nat.le_refl _) _
      have hs0 : w.heap.size ≤ (w.alloc (.cells #[] 5)).heap.size := hb0.size
      have hlen : ([] : List UInt8).length + l1.length ≤ 140737488355328 := by simp; omega
      have hlen2 : ([] ++ l1 : List UInt8).length + l2.length ≤ 140737488355328 := by simp; omega
      go_enter Try.func3, Try.ntmps3
      go_wp2_with (first
        | (at_builtin; refine wpList_append_bytes rfl (.tmp 17) (.tmp 18) rfl w.heap.size _ _ [] rfl ho A1 l1 c1 rfl (hB1.below hb0) hlen hs0 ?_; intro v1 w1 ho1 hg1; have hb1 : Below w.heap.size w w1 := below_grown hb0 hg1 hs0 (fun g hg => (ho.from_base g hg).1))
        | (at_builtin; refine wpList_append_bytes rfl (.tmp 19) (.tmp 20) rfl w.heap.size _ _ _ rfl ho1 A2 l2 c2 rfl (hB2.below hb1) hlen2 hb1.size ?_; intro v2 w2 ho2 hg2; have hb2 : Below w.heap.size w w2 := below_grown hb1 hg2 hb1.size (fun g hg => (ho1.from_base g hg).1)))
      obtain ⟨A, c, rfl, hc, hm, hB⟩ := ho2.read
      rw [List.nil_append] at *
      clear ho2 ho1 ho hg1 hg2 hlen hlen2 hs0 hb0 hb1
      generalize hall : l1 ++ l2 = all at *
      have HALL := Lib.hid hall; clear hall
      refine (sum_any A1 l1 c1 _ (hB1.below hb2) hc1 hm1).mono ?_
      rintro e w3 ⟨rfl, hb3⟩
      have g3 := hb2.trans (hb3.mono hb2.size)
      go_wp2_with fail
      refine (refSum_any A1 l1 c1 _ (hB1.below g3) (by omega)).mono ?_
      rintro e w' ⟨rfl, rfl⟩
      go_wp2_with fail
      refine (on_any s A all c _ (hB.below hb3) hc hm).mono ?_
      rintro e w4 ⟨rfl, hb4⟩
      have g4 := g3.trans (hb4.mono g3.size)
      have q4 := hb3.trans (hb4.mono hb3.size)
      go_wp2_with fail
      refine (refOn_any s A all c _ (hB.below q4) (by omega)).mono ?_
      rintro e w' ⟨rfl, rfl⟩
      go_wp2_with fail
      refine (on_any s A1 l1 c1 _ (hB1.below g4) hc1 hm1).mono ?_
      rintro e w5 ⟨rfl, hb5⟩
      have g5 := g4.trans (hb5.mono g4.size)
      have q5 := q4.trans (hb5.mono q4.size)
      go_wp2_with fail
      refine (on_any _ A2 l2 c2 _ (hB2.below g5) hc2 hm2).mono ?_
      rintro e w6 ⟨rfl, hb6⟩
      have g6 := g5.trans (hb6.mono g5.size)
      have q6 := q5.trans (hb6.mono q5.size)
      rw [crcOf_append, HALL.out]
      go_wp2_with fail
      refine (on_any s A all c _ (hB.below q6) hc hm).mono ?_
      rintro e w7 ⟨rfl, hb7⟩
      have g7 := g6.trans (hb7.mono g6.size)
      go_wp2_with fail
      refine (knows_any _).mono ?_
      rintro e w8 ⟨rfl, hb8⟩
      go_wp2_with fail
      go_ret
      exact ⟨rfl, g7.trans (hb8.mono g7.size)⟩
end Go.Proofs.Ytjfedjapmpoilaa.C64
