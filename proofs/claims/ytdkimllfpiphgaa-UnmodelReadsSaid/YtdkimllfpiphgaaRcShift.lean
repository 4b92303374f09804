/- The walk over the coder's shift. -/
import Derived.Test.YtdkimllfpiphgaaRcAdd
import Derived.Deep.RegionLaw
import Derived.Deep.LoopGhost
namespace Go.Proofs.Ytdkimllfpiphgaa
open Go.RowKit

/-- What shift comes to: the state scaled, its bytes in the old block or a new one. -/
def Shifted (w : World) (g o : Nat) (t : Rc.St) (w' : World) : Prop := ∃ o' cap', EncAt w' g o' cap' t ∧ Only [g, o] w w' ∧ (o' = o ∨ w.heap.size ≤ o')

theorem top_byte (v lw : Nat) (h : v % 4294967296 = lw) : IntKind.u8.wrap ((lw : Int) / 16777216) = ((UInt8.ofNat (v / 16777216 % 256)).toNat : Int) := by
  rw [IntKind.wrap_u8', UInt8.toNat_ofNat']; omega
theorem up_low (v lw : Nat) (h : v % 4294967296 = lw) : ((lw : Int) * 256) % 4294967296 = ((v * 256 % 4294967296 : Nat) : Int) := by omega
theorem up_bytes (k v : Nat) : Rc.be (1 + k) (v / 4294967296) ++ [UInt8.ofNat (v / 16777216 % 256)] = Rc.be (1 + (k + 1)) (v * 256 / 4294967296) := by
  rw [← Nat.add_assoc, Rc.be, show v * 256 / 4294967296 = v / 16777216 by omega, Nat.div_div_eq_div_mul]

theorem cell0_of {w : World} {g : Nat} {a b c : Value} {t : TypeId} {fr : Nat × Nat} (h : w.heap[g]? = some (.cells #[a, b, c] t fr)) : w.cell? ⟨g, 0, none⟩ = some a := by rw [cell_of_row _ _ _ _ _ _ h]; rfl
theorem cell1_of {w : World} {g : Nat} {a b c : Value} {t : TypeId} {fr : Nat × Nat} (h : w.heap[g]? = some (.cells #[a, b, c] t fr)) : w.cell? ⟨g, 1, none⟩ = some b := by rw [cell_of_row _ _ _ _ _ _ h]; rfl
theorem cell2_of {w : World} {g : Nat} {a b c : Value} {t : TypeId} {fr : Nat × Nat} (h : w.heap[g]? = some (.cells #[a, b, c] t fr)) : w.cell? ⟨g, 2, none⟩ = some c := by rw [cell_of_row _ _ _ _ _ _ h]; rfl

set_option maxRecDepth 100000 in
set_option maxHeartbeats 2000000 in
theorem shift_any (N g o cap : Nat) (s : Rc.St) (w : World) (hE : EncAt w g o cap s) (hf : s.fits) (hk : 1 + s.k + N ≤ 140737488355328) (hr : 16777216 ≤ s.r * 256 ^ N) :
    Calls Try.prog 92 #[.pointer (some ⟨g, 0, none⟩)] w (Did (Shifted w g o (Rc.St.scale N s))) := by
  obtain ⟨i, hi, hz0, hz1, hz2⟩ := info_parts info8
  go_enter Try.func92, Try.ntmps92
  go_wp2_with fail
  go_loopg [6] N (fun gk s6 wr => ∃ (o' cap' : Nat) (t : Rc.St), EncAt wr g o' cap' t ∧ t.fits ∧ 1 + t.k + gk ≤ 140737488355328 ∧ Hid (16777216 ≤ t.r * 256 ^ gk) ∧ Rc.St.scale N s = Rc.St.scale gk t ∧ Only [g, o] w wr ∧ (o' = o ∨ w.heap.size ≤ o'))
  case atStart => exact ⟨o, cap, s, hE, hf, hk, hr, rfl, Only.refl _ _, .inl rfl⟩
  case round =>
    obtain ⟨o', cap', t, hT, hft, hkt, hrt, hsc, hon, ho'⟩ := hrel
    have HSC := Lib.hid hsc
    have c0 : wr.cell? ⟨g, 0, none⟩ = some (.int .u32 ((t.v % 4294967296 : Nat) : Int)) := by rw [cell_of_row _ _ _ _ _ _ hT.blk]; rfl
    have c1 : wr.cell? ⟨g, 1, none⟩ = some (.int .u32 ((t.r : Nat) : Int)) := by rw [cell_of_row _ _ _ _ _ _ hT.blk]; rfl
    have c2 : wr.cell? ⟨g, 2, none⟩ = some (.slice (some ⟨o', 0, none⟩) (1 + t.k) cap') := by rw [cell_of_row _ _ _ _ _ _ hT.blk]; rfl
    have f0 : wr.frozen? ⟨g, 0, none⟩ = false := frozen_of_row _ _ _ _ _ hT.blk
    have f1 : wr.frozen? ⟨g, 1, none⟩ = false := frozen_of_row _ _ _ _ _ hT.blk
    have f2 : wr.frozen? ⟨g, 2, none⟩ = false := frozen_of_row _ _ _ _ _ hT.blk
    clear hsc hE
    by_cases hlt : t.r < 16777216
    · have hlt' : (t.r : Int) < 16777216 := by omega
      cases gk with
      | zero => have := hrt.out; simp at this; omega
      | succ gk =>
        generalize hlw : t.v % 4294967296 = lw at *
        have htop := top_byte t.v lw hlw
        have hup := Lib.hid (up_low t.v lw hlw)
        have hll : lw < 4294967296 := by omega
        have HLW := Lib.hid hlw
        clear hlw
        have hub := Lib.hid (up_bytes t.k t.v)
        generalize hx : UInt8.ofNat (t.v / 16777216 % 256) = x at *
        have hgl : g < wr.heap.size := block_lt_of_cell c0
        have hoa := World.ownsRow.alloc hT.own (.cells #[.int .u8 (x.toNat : Nat)] 5)
        have hnews := cell_one_new wr (B8 x) 5
        have h63 : 1 + t.k + 1 ≤ maxLen := by unfold maxLen; omega
        have hby : (1 + t.k + 1) * 1 ≤ 140737488355328 := by omega
        have hbs : 0 ≤ (wr.alloc (.cells #[.int .u8 (x.toNat : Nat)] 5)).drew.heap.size := Nat.zero_le _
        have hHH : (wr.alloc (.cells #[.int .u8 (x.toNat : Nat)] 5)).drew.heap.size = wr.heap.size + 1 := by show (wr.alloc _).heap.size = _; simp
        have HH := Lib.hid hHH
        clear hHH
        have hblkt := hT.blk
        rw [HLW.out] at hblkt
        have hne := hT.ne
        have hbk : ∀ w2 : World, (wr.alloc (.cells #[.int .u8 (x.toNat : Nat)] 5)).drew.grownBy w2 (Value.ownBlock (.slice (some ⟨o', 0, none⟩) (1 + t.k) cap')) → w2.heap[g]? = some (.cells #[.int .u32 (lw : Int), .int .u32 ((t.r : Nat) : Int), .slice (some ⟨o', 0, none⟩) (1 + t.k) cap'] 96 (0, 0)) := by
          intro w2 h
          refine (h.block g ?_ ?_).trans ((Below.heap_alloc wr _ g hgl).trans hblkt)
          · show g < (wr.alloc _).heap.size; simp; omega
          · simpa [Value.ownBlock] using hne
        have HBK := Lib.hid hbk
        clear hbk hblkt
        go_wp2_with fail
        go_region_law (refine step_append_lies (P := Try.prog) _ rfl (.tmp 11) (.tmp 18) 22 rfl 0 5 i (.int .u8 0) 1 1 Try.underlying22 hi hz0 hz1 hz2 rfl (by decide) (.slice (some ⟨o', 0, none⟩) (1 + t.k) cap') (1 + t.k) _ rfl hoa.drew ⟨wr.heap.size, 0, none⟩ 1 1 [B8 x] rfl rfl hnews (b8_one [x]) (by decide) h63 hby hbs (wr.heap.size + 1) HH.out ?_; intro g2 cap2 w2 hown2 hg2 hat2 hlt2; have hbk2 := HBK.out w2 hg2; have c22 := cell2_of hbk2; have f22 := frozen_of_row w2 g 2 _ _ hbk2)
        all_goals
          have hb3 := blk_set2 hbk2 (.slice (some ⟨g2, 0, none⟩) (1 + t.k + 1) cap2)
          have hng : g ≠ g2 := by
            rcases hat2 with h | h
            · have e : o' = g2 := by simpa [Value.ownBlock] using h
              rw [← e]; exact hne
            · omega
          have hown3 := own_other (p := ⟨g, 2, none⟩) hown2 hng (.slice (some ⟨g2, 0, none⟩) (1 + t.k + 1) cap2)
          have hon2 : Only [g, o] w w2 := by
            refine (hon.alloc (.cells #[.int .u8 (x.toNat : Nat)] 5)).drew.grown hg2 ?_
            rcases ho' with h | h
            · exact .inl (by simp [h])
            · exact .inr h
          have hon3 := hon2.setCell (p := ⟨g, 2, none⟩) (.inl (by simp)) (.slice (some ⟨g2, 0, none⟩) (1 + t.k + 1) cap2)
          have ho2 : g2 = o ∨ w.heap.size ≤ g2 := by
            rcases hat2 with h | h
            · have e : o' = g2 := by simpa [Value.ownBlock] using h
              rw [← e]; exact ho'
            · have := hon.size; exact .inr (by omega)
          generalize w2.setCell ⟨g, 2, none⟩ (.slice (some ⟨g2, 0, none⟩) (1 + t.k + 1) cap2) = w3 at *
          have d0 := cell0_of hb3
          have d1 := cell1_of hb3
          have e0 := frozen_of_row w3 g 0 _ _ hb3
          have e1 := frozen_of_row w3 g 1 _ _ hb3
          have hlast := blk_set1 (blk_set0 hb3 (.int .u32 ((t.v * 256 % 4294967296 : Nat) : Int))) (.int .u32 ((t.r * 256 : Nat) : Int))
          have hown4 := own_other (p := ⟨g, 1, none⟩) (own_other (p := ⟨g, 0, none⟩) hown3 hng (.int .u32 ((t.v * 256 % 4294967296 : Nat) : Int))) hng (.int .u32 ((t.r * 256 : Nat) : Int))
          have hon4 := (hon3.setCell (p := ⟨g, 0, none⟩) (.inl (by simp)) (.int .u32 ((t.v * 256 % 4294967296 : Nat) : Int))).setCell (p := ⟨g, 1, none⟩) (.inl (by simp)) (.int .u32 ((t.r * 256 : Nat) : Int))
          have HL := Lib.hid hlast
          clear hlast hbk2 hg2 hat2 hown2 hon2 c22 f22 hown3 hon3 c0 c1 c2 f0 f1 f2 htop hoa hnews
          go_wp2_with fail
          rw [hup.out, show ((t.r : Int) * 256) = ((t.r * 256 : Nat) : Int) from by omega]
          go_roundg gk
          case measure => omega
          case rel =>
            refine ⟨g2, cap2, t.up, ⟨?_, ?_, hng⟩, t.up_fits hft hlt, by show 1 + (t.k + 1) + gk ≤ _; omega, ?_, ?_, hon4, ho2⟩
            · show _ = some (Obj.cells #[_, _, .slice (some ⟨g2, 0, none⟩) (1 + (t.k + 1)) cap2] _ _)
              rw [← Nat.add_assoc]; exact HL.out
            · show World.ownsRow _ 0 _ 1 (.slice (some ⟨g2, 0, none⟩) (1 + (t.k + 1)) cap2) (1 + (t.k + 1)) ((Rc.be (1 + (t.k + 1)) (t.v * 256 / 4294967296)).map B8)
              rw [← hub.out, List.map_append, ← Nat.add_assoc]; exact hown4
            · show 16777216 ≤ t.r * 256 * 256 ^ gk
              have := hrt.out
              rw [Nat.pow_succ, Nat.mul_comm (256 ^ gk), ← Nat.mul_assoc] at this; exact this
            · rw [HSC.out, Rc.St.scale, if_pos hlt]
    · have hge : ¬ (t.r : Int) < 16777216 := by omega
      go_wp2_with fail
      go_end0
      refine ⟨rfl, o', cap', ?_, hon, ho'⟩
      have hst : Rc.St.scale gk t = t := by
        cases gk with
        | zero => rfl
        | succ gk => rw [Rc.St.scale, if_neg hlt]
      rw [HSC.out, hst]; exact hT
end Go.Proofs.Ytdkimllfpiphgaa
