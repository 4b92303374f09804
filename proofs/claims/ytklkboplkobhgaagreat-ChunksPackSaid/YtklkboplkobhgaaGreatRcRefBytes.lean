/- The walk over the reference's Bytes. -/
import Derived.Test.YtklkboplkobhgaaGreatRcRefAll
namespace Go.Proofs.YtklkboplkobhgaaGreat
set_option maxRecDepth 100000
open Go.RowKit

theorem lead5 (k v : Nat) (h : v < 256 ^ (4 + k)) : [0] ++ Rc.be (4 + k) v = Rc.be (5 + k) v := by
  rw [show 5 + k = 1 + (4 + k) by omega, Rc.be_lead _ _ h]; rfl

set_option maxRecDepth 100000 in
set_option maxHeartbeats 400000 in
theorem rbytes_any (h o cap : Nat) (s : Rc.St) (w : World) (hE : RefAt w h o cap s) (hv : s.v < 256 ^ (4 + s.k)) (hk : 4 + s.k + 1 ≤ 140737488355328) :
    Calls Tryz.prog 33 #[.pointer (some ⟨h, 0, none⟩)] w (GivesB w (Rc.be (5 + s.k) s.v)) := by
  have c0 := cell20_of hE.blk
  have hhl : h < w.heap.size := block_lt_of_cell c0
  obtain ⟨hlen, hrB⟩ := own_read0 hE.own
  have hlead := lead5 s.k s.v hv
  generalize Rc.be (4 + s.k) s.v = lb at *
  generalize Rc.be (5 + s.k) s.v = res at *
  clear hv
  generalize 4 + s.k = m at *
  have hsrc : Value.slice (some ⟨o, 0, none⟩) m cap = .slice (some ⟨o, 0, none⟩) lb.length cap := by rw [hlen]
  have HSRC := Lib.hid hsrc
  have HLEAD := Lib.hid hlead
  have hfit : [(0 : UInt8)].length + lb.length ≤ 140737488355328 := by rw [← hlen]; simp; omega
  have ho : Own w.heap.size (w.alloc (.cells #[.int .u8 0] 5)) (.slice (some ⟨w.heap.size, 0, none⟩) 1 1) [0] := Own.lit w [0] (Nat.le_refl _) (by simp)
  have hb0 : Below w.heap.size w (w.alloc (.cells #[.int .u8 0] 5)) := (Below.refl _ _).alloc (Nat.le_refl _) _
  have hs0 : w.heap.size ≤ (w.alloc (.cells #[.int .u8 0] 5)).heap.size := hb0.size
  clear hE hsrc hlen hlead
  go_enter Tryz.func33, Tryz.ntmps33
  go_wp2_with (at_builtin; refine wpList_append_bytes rfl (.tmp 3) (.tmp 7) rfl w.heap.size _ _ [0] rfl ho (some ⟨o, 0, none⟩) lb cap HSRC.out (hrB.below hb0) hfit hs0 ?_; intro v2 w4 ho4 hg4; have hb4 : Below w.heap.size w w4 := below_grown hb0 hg4 hs0 (fun g' hg' => (ho.from_base g' hg').1))
  go_ret
  refine ⟨_, rfl, ?_, hb4⟩
  rw [← HLEAD.out]; exact ho4
end Go.Proofs.YtklkboplkobhgaaGreat
