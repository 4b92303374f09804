/- The walks over the reference's scale, Bit, New and Bytes. -/
import Derived.Test.YteiglcgkhcmkeaaRcRefAdd
import Derived.Deep.DeepCutAuto
namespace Go.Proofs.Yteiglcgkhcmkeaa
open Go.RowKit

theorem up_be (k v : Nat) : Rc.be (4 + k) v ++ [0] = Rc.be (4 + (k + 1)) (v * 256) := by
  rw [← Nat.add_assoc, Rc.be, Nat.mul_div_cancel _ (by omega), Nat.mul_mod_left]; rfl

set_option maxRecDepth 100000 in
set_option maxHeartbeats 2000000 in
theorem rscale_any (N h o cap : Nat) (s : Rc.St) (w : World) (hE : RefAt w h o cap s) (hf : s.fits) (hk : 4 + s.k + N ≤ 140737488355328) (hr : 16777216 ≤ s.r * 256 ^ N) :
    Calls Try.prog 20 #[.pointer (some ⟨h, 0, none⟩)] w (Did (RefDone w h o (Rc.St.scale N s))) := by
  go_enter Try.func20, Try.ntmps20
  go_wp2_with fail
  go_loopg [6] N (fun gk s6 wr => ∃ (o' cap' : Nat) (t : Rc.St), RefAt wr h o' cap' t ∧ t.fits ∧ 4 + t.k + gk ≤ 140737488355328 ∧ Hid (16777216 ≤ t.r * 256 ^ gk) ∧ Rc.St.scale N s = Rc.St.scale gk t ∧ Only [h] w wr ∧ (o' = o ∨ w.heap.size ≤ o'))
  case atStart => exact ⟨o, cap, s, hE, hf, hk, hr, rfl, Only.refl _ _, .inl rfl⟩
  case round =>
    obtain ⟨o', cap', t, hT, hft, hkt, hrt, hsc, hon, ho'⟩ := hrel
    have HSC := Lib.hid hsc
    have c0 := cell20_of hT.blk
    have c1 := cell21_of hT.blk
    have f0 := frozen_of_row wr h 0 _ _ hT.blk
    have f1 := frozen_of_row wr h 1 _ _ hT.blk
    clear hsc hE
    by_cases hlt : t.r < 16777216
    · have hlt' : (t.r : Int) < 16777216 := by omega
      cases gk with
      | zero => have := hrt.out; simp at this; omega
      | succ gk =>
        have hhl : h < wr.heap.size := block_lt_of_cell c0
        have hblk1 := blk2_set1 hT.blk (.int .u64 ((t.r : Int) * 256))
        have hown1 := own_other (p := ⟨h, 1, none⟩) hT.own hT.ne (.int .u64 ((t.r : Int) * 256))
        have hon1 := hon.setCell (p := ⟨h, 1, none⟩) (.inl (by simp)) (.int .u64 ((t.r : Int) * 256))
        have hsz1 : (wr.setCell ⟨h, 1, none⟩ (.int .u64 ((t.r : Int) * 256))).heap.size = wr.heap.size := by simp
        generalize hw1 : wr.setCell ⟨h, 1, none⟩ (.int .u64 ((t.r : Int) * 256)) = w1 at *
        have HW1 := Lib.hid hw1
        have c01 := cell20_of hblk1
        have f01 := frozen_of_row w1 h 0 _ _ hblk1
        obtain ⟨hlen, hrB⟩ := own_read0 hown1
        have hub := Lib.hid (up_be t.k t.v)
        generalize hlb : Rc.be (4 + t.k) t.v = lb at *
        have hm0 : 0 < 4 + t.k := by omega
        generalize hmd : 4 + t.k = m at *
        have HM := Lib.hid hmd
        have hsrc : Value.slice (some ⟨o', 0, none⟩) m cap' = .slice (some ⟨o', 0, none⟩) lb.length cap' := by rw [hlen]
        have HSRC := Lib.hid hsrc
        have HLEN := Lib.hid hlen
        have hfit : ([] : List UInt8).length + lb.length ≤ 140737488355328 := by rw [← hlen]; simp; omega
        have hfit2 : ([] ++ lb : List UInt8).length + [(0 : UInt8)].length ≤ 140737488355328 := by simp; rw [← hlen]; omega
        have hoe : Own w1.heap.size (w1.alloc (.cells #[] 5)) (.slice (some ⟨w1.heap.size, 0, none⟩) 0 0) [] := Own.lit w1 [] (Nat.le_refl _) (by simp)
        have hb0 : Below w1.heap.size w1 (w1.alloc (.cells #[] 5)) := (Below.refl _ _).alloc (Nat.le_refl _) _
        have hs0 : w1.heap.size ≤ (w1.alloc (.cells #[] 5)).heap.size := hb0.size
        have hhl1 : h < w1.heap.size := by omega
        have HB1 := Lib.hid hblk1
        clear hlb hmd hsrc hlen hw1 hsz1 hblk1
        go_upto_region 2 with (fail)
        rw [HW1.out]
        clear c0 c1 f0 f1
        go_wp2_with (first
          | (at_builtin; refine wpList_append_bytes rfl (.tmp 16) (.tmp 20) rfl w1.heap.size _ _ [] rfl hoe (some ⟨o', 0, none⟩) lb cap' HSRC.out (hrB.below hb0) hfit hs0 ?_; intro v2 w4 ho4 hg4; have hb4 : Below w1.heap.size w1 w4 := below_grown hb0 hg4 hs0 (fun g' hg' => (hoe.from_base g' hg').1); have hone : Bytes (w4.alloc (.cells #[.int .u8 0] 5)) (some ⟨w4.heap.size, 0, none⟩) [0] := Bytes.one w4 0; have hoa := ho4.alloc (.cells #[.int .u8 0] 5); have hba := hb4.alloc hb4.size (.cells #[.int .u8 0] 5); have c04 := (hb4.cell (p := ⟨h, 0, none⟩) hhl1).trans c01)
          | (at_builtin; refine wpList_append_bytes rfl (.tmp 21) (.tmp 22) rfl w1.heap.size _ _ _ rfl hoa (some ⟨w4.heap.size, 0, none⟩) [0] 1 rfl hone hfit2 hba.size ?_; intro v3 w5 ho5 hg5; have hb5 : Below w1.heap.size w1 w5 := below_grown hba hg5 hba.size (fun g' hg' => (hoa.from_base g' hg').1); have hblk5 := (hb5.block h hhl1).trans HB1.out; have c05 := cell20_of hblk5; have f05 := frozen_of_row w5 h 0 _ _ hblk5; rw [List.nil_append] at ho5; unfold Own at ho5; rw [List.length_append, ← HLEN.out] at ho5; obtain ⟨gb, capb, rfl, hgb, hgblt⟩ := World.ownsRow.form ho5 (by simp)))
        have hne5 : h ≠ gb := by omega
        have hlast := blk2_set0 hblk5 (.slice (some ⟨gb, 0, none⟩) (m + 1) capb)
        have hown6 := own_other (p := ⟨h, 0, none⟩) (own_lower ho5 (Nat.zero_le _)) hne5 (.slice (some ⟨gb, 0, none⟩) (m + 1) capb)
        have hon5 : Only [h] w w5 := hon1.trans (Y := []) ⟨hb5.os, hb5.tape, hb5.output, hb5.size, fun i hi _ => hb5.block i hi⟩ (by simp)
        have hon6 := hon5.setCell (p := ⟨h, 0, none⟩) (.inl (by simp)) (.slice (some ⟨gb, 0, none⟩) (m + 1) capb)
        have hsz := hon1.size
        go_roundg gk
        case measure => omega
        case rel =>
          refine ⟨gb, capb, t.up, ⟨?_, ?_, hne5⟩, t.up_fits hft hlt, by show 4 + (t.k + 1) + gk ≤ _; have := HM.out; omega, ?_, ?_, hon6, .inr (by omega)⟩
          · show _ = some (Obj.cells #[.slice (some ⟨gb, 0, none⟩) (4 + (t.k + 1)) capb, .int .u64 ((t.r * 256 : Nat) : Int)] _ _)
            rw [← Nat.add_assoc, HM.out, show ((t.r * 256 : Nat) : Int) = (t.r : Int) * 256 from by omega]; exact hlast
          · show World.ownsRow _ 0 _ 1 (.slice (some ⟨gb, 0, none⟩) (4 + (t.k + 1)) capb) (4 + (t.k + 1)) ((Rc.be (4 + (t.k + 1)) (t.v * 256)).map B8)
            rw [← hub.out, ← Nat.add_assoc, HM.out]; exact hown6
          · show 16777216 ≤ t.r * 256 * 256 ^ gk
            have := hrt.out
            rw [Nat.pow_succ, Nat.mul_comm (256 ^ gk), ← Nat.mul_assoc] at this; exact this
          · rw [HSC.out, Rc.St.scale, if_pos hlt]
    · have hge : ¬ (t.r : Int) < 16777216 := by omega
      go_wp2_with fail
      go_end0
      refine ⟨rfl, o', cap', ?_, hon, ho'⟩
      have hst : Rc.St.scale gk t = t := by
        cases gk with
        | zero => rfl
        | succ gk => rw [Rc.St.scale, if_neg hlt]
      rw [HSC.out, hst]; exact hT
end Go.Proofs.Yteiglcgkhcmkeaa
