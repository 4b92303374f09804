/- Several texts in one: RcShift, RcBit, RcMath2. -/
import Derived.Test.YtkckjjchfccdjaaMg2
import Derived.Deep.RegionLaw
import Derived.Deep.LoopGhost
/- The walk over the coder's shift. -/
namespace Go.Proofs.Ytkckjjchfccdjaa
set_option maxRecDepth 100000
open Go.RowKit

/-- What shift comes to: the state scaled, its bytes in the old block or a new one. -/
def Shifted (w : World) (g o : Nat) (t : Rc.St) (w' : World) : Prop := ∃ o' cap', EncAt w' g o' cap' t ∧ Only [g, o] w w' ∧ (o' = o ∨ w.heap.size ≤ o')

theorem top_byte (v lw : Nat) (h : v % 4294967296 = lw) : IntKind.u8.wrap ((lw : Int) / 16777216) = ((UInt8.ofNat (v / 16777216 % 256)).toNat : Int) := by
  rw [IntKind.wrap_u8', UInt8.toNat_ofNat']; omega
theorem up_low (v lw : Nat) (h : v % 4294967296 = lw) : ((lw : Int) * 256) % 4294967296 = ((v * 256 % 4294967296 : Nat) : Int) := by omega
theorem up_bytes (k v : Nat) : Rc.be (1 + k) (v / 4294967296) ++ [UInt8.ofNat (v / 16777216 % 256)] = Rc.be (1 + (k + 1)) (v * 256 / 4294967296) := by
  rw [← Nat.add_assoc, Rc.be, show v * 256 / 4294967296 = v / 16777216 by omega, Nat.div_div_eq_div_mul]

theorem cell0_of {w : World} {g : Nat} {a b c : Value} {t : TypeId} {fr : Nat × Nat} (h : w.heap[g]? = some (.cells #[a, b, c] t fr)) : w.cell? ⟨g, 0, none⟩ = some a := by rw [cell_of_row _ _ _ _ _ _ h]; rfl
theorem cell1_of {w : World} {g : Nat} {a b c : Value} {t : TypeId} {fr : Nat × Nat} (h : w.heap[g]? = some (.cells #[a, b, c] t fr)) : w.cell? ⟨g, 1, none⟩ = some b := by rw [cell_of_row _ _ _ _ _ _ h]; rfl
theorem cell2_of {w : World} {g : Nat} {a b c : Value} {t : TypeId} {fr : Nat × Nat} (h : w.heap[g]? = some (.cells #[a, b, c] t fr)) : w.cell? ⟨g, 2, none⟩ = some c := by rw [cell_of_row _ _ _ _ _ _ h]; rfl

set_option maxRecDepth 100000 in
set_option maxHeartbeats 2000000 in
theorem shift_any (N g o cap : Nat) (s : Rc.St) (w : World) (hE : EncAt w g o cap s) (hf : s.fits) (hk : 1 + s.k + N ≤ 140737488355328) (hr : 16777216 ≤ s.r * 256 ^ N) :
    Calls Try.prog 130 #[.pointer (some ⟨g, 0, none⟩)] w (Did (Shifted w g o (Rc.St.scale N s))) := by
  obtain ⟨i, hi, hz0, hz1, hz2⟩ := info_parts info8
  go_enter Try.func130, Try.ntmps130
  go_wp2_with fail
  go_loopg [6] N (fun gk s6 wr => ∃ (o' cap' : Nat) (t : Rc.St), EncAt wr g o' cap' t ∧ t.fits ∧ 1 + t.k + gk ≤ 140737488355328 ∧ Hid (16777216 ≤ t.r * 256 ^ gk) ∧ Rc.St.scale N s = Rc.St.scale gk t ∧ Only [g, o] w wr ∧ (o' = o ∨ w.heap.size ≤ o'))
  case atStart => exact ⟨o, cap, s, hE, hf, hk, hr, rfl, Only.refl _ _, .inl rfl⟩
  case round =>
    obtain ⟨o', cap', t, hT, hft, hkt, hrt, hsc, hon, ho'⟩ := hrel
    have HSC := Lib.hid hsc
    have c0 : wr.cell? ⟨g, 0, none⟩ = some (.int .u32 ((t.v % 4294967296 : Nat) : Int)) := by rw [cell_of_row _ _ _ _ _ _ hT.blk]; rfl
    have c1 : wr.cell? ⟨g, 1, none⟩ = some (.int .u32 ((t.r : Nat) : Int)) := by rw [cell_of_row _ _ _ _ _ _ hT.blk]; rfl
    have c2 : wr.cell? ⟨g, 2, none⟩ = some (.slice (some ⟨o', 0, none⟩) (1 + t.k) cap') := by rw [cell_of_row _ _ _ _ _ _ hT.blk]; rfl
    have f0 : wr.frozen? ⟨g, 0, none⟩ = false := frozen_of_row _ _ _ _ _ hT.blk
    have f1 : wr.frozen? ⟨g, 1, none⟩ = false := frozen_of_row _ _ _ _ _ hT.blk
    have f2 : wr.frozen? ⟨g, 2, none⟩ = false := frozen_of_row _ _ _ _ _ hT.blk
    clear hsc hE
    by_cases hlt : t.r < 16777216
    · have hlt' : (t.r : Int) < 16777216 := by omega
      cases gk with
      | zero => have := hrt.out; simp at this; omega
      | succ gk =>
        generalize hlw : t.v % 4294967296 = lw at *
        have htop := top_byte t.v lw hlw
        have hup := Lib.hid (up_low t.v lw hlw)
        have hll : lw < 4294967296 := by omega
        have HLW := Lib.hid hlw
        clear hlw
        have hub := Lib.hid (up_bytes t.k t.v)
        generalize hx : UInt8.ofNat (t.v / 16777216 % 256) = x at *
        have hgl : g < wr.heap.size := block_lt_of_cell c0
        have hoa := World.ownsRow.alloc hT.own (.cells #[.int .u8 (x.toNat : Nat)] 5)
        have hnews := cell_one_new wr (B8 x) 5
        have h63 : 1 + t.k + 1 ≤ maxLen := by unfold maxLen; omega
        have hby : (1 + t.k + 1) * 1 ≤ 140737488355328 := by omega
        have hbs : 0 ≤ (wr.alloc (.cells #[.int .u8 (x.toNat : Nat)] 5)).drew.heap.size := Nat.zero_le _
        have hHH : (wr.alloc (.cells #[.int .u8 (x.toNat : Nat)] 5)).drew.heap.size = wr.heap.size + 1 := by show (wr.alloc _).heap.size = _; simp
        have HH := Lib.hid hHH
        clear hHH
        have hblkt := hT.blk
        rw [HLW.out] at hblkt
        have hne := hT.ne
        have hbk : ∀ w2 : World, (wr.alloc (.cells #[.int .u8 (x.toNat : Nat)] 5)).drew.grownBy w2 (Value.ownBlock (.slice (some ⟨o', 0, none⟩) (1 + t.k) cap')) → w2.heap[g]? = some (.cells #[.int .u32 (lw : Int), .int .u32 ((t.r : Nat) : Int), .slice (some ⟨o', 0, none⟩) (1 + t.k) cap'] 148 (0, 0)) := by
          intro w2 h
          refine (h.block g ?_ ?_).trans ((Below.heap_alloc wr _ g hgl).trans hblkt)
          · show g < (wr.alloc _).heap.size; simp; omega
          · simpa [Value.ownBlock] using hne
        have HBK := Lib.hid hbk
        clear hbk hblkt
        go_wp2_with fail
        go_region_law (refine step_append_lies (P := Try.prog) _ rfl (.tmp 11) (.tmp 18) 22 rfl 0 5 i (.int .u8 0) 1 1 Try.underlying22 hi hz0 hz1 hz2 rfl (by decide) (.slice (some ⟨o', 0, none⟩) (1 + t.k) cap') (1 + t.k) _ rfl hoa.drew ⟨wr.heap.size, 0, none⟩ 1 1 [B8 x] rfl rfl hnews (b8_one [x]) (by decide) h63 hby hbs (wr.heap.size + 1) HH.out ?_; intro g2 cap2 w2 hown2 hg2 hat2 hlt2; have hbk2 := HBK.out w2 hg2; have c22 := cell2_of hbk2; have f22 := frozen_of_row w2 g 2 _ _ hbk2)
        all_goals
          have hb3 := blk_set2 hbk2 (.slice (some ⟨g2, 0, none⟩) (1 + t.k + 1) cap2)
          have hng : g ≠ g2 := by
            rcases hat2 with h | h
            · have e : o' = g2 := by simpa [Value.ownBlock] using h
              rw [← e]; exact hne
            · omega
          have hown3 := own_other (p := ⟨g, 2, none⟩) hown2 hng (.slice (some ⟨g2, 0, none⟩) (1 + t.k + 1) cap2)
          have hon2 : Only [g, o] w w2 := by
            refine (hon.alloc (.cells #[.int .u8 (x.toNat : Nat)] 5)).drew.grown hg2 ?_
            rcases ho' with h | h
            · exact .inl (by simp [h])
            · exact .inr h
          have hon3 := hon2.setCell (p := ⟨g, 2, none⟩) (.inl (by simp)) (.slice (some ⟨g2, 0, none⟩) (1 + t.k + 1) cap2)
          have ho2 : g2 = o ∨ w.heap.size ≤ g2 := by
            rcases hat2 with h | h
            · have e : o' = g2 := by simpa [Value.ownBlock] using h
              rw [← e]; exact ho'
            · have := hon.size; exact .inr (by omega)
          generalize w2.setCell ⟨g, 2, none⟩ (.slice (some ⟨g2, 0, none⟩) (1 + t.k + 1) cap2) = w3 at *
          have d0 := cell0_of hb3
          have d1 := cell1_of hb3
          have e0 := frozen_of_row w3 g 0 _ _ hb3
          have e1 := frozen_of_row w3 g 1 _ _ hb3
          have hlast := blk_set1 (blk_set0 hb3 (.int .u32 ((t.v * 256 % 4294967296 : Nat) : Int))) (.int .u32 ((t.r * 256 : Nat) : Int))
          have hown4 := own_other (p := ⟨g, 1, none⟩) (own_other (p := ⟨g, 0, none⟩) hown3 hng (.int .u32 ((t.v * 256 % 4294967296 : Nat) : Int))) hng (.int .u32 ((t.r * 256 : Nat) : Int))
          have hon4 := (hon3.setCell (p := ⟨g, 0, none⟩) (.inl (by simp)) (.int .u32 ((t.v * 256 % 4294967296 : Nat) : Int))).setCell (p := ⟨g, 1, none⟩) (.inl (by simp)) (.int .u32 ((t.r * 256 : Nat) : Int))
          have HL := Lib.hid hlast
          clear hlast hbk2 hg2 hat2 hown2 hon2 c22 f22 hown3 hon3 c0 c1 c2 f0 f1 f2 htop hoa hnews
          go_wp2_with fail
          rw [hup.out, show ((t.r : Int) * 256) = ((t.r * 256 : Nat) : Int) from by omega]
          go_roundg gk
          case measure => omega
          case rel =>
            refine ⟨g2, cap2, t.up, ⟨?_, ?_, hng⟩, t.up_fits hft hlt, by show 1 + (t.k + 1) + gk ≤ _; omega, ?_, ?_, hon4, ho2⟩
            · show _ = some (Obj.cells #[_, _, .slice (some ⟨g2, 0, none⟩) (1 + (t.k + 1)) cap2] _ _)
              rw [← Nat.add_assoc]; exact HL.out
            · show World.ownsRow _ 0 _ 1 (.slice (some ⟨g2, 0, none⟩) (1 + (t.k + 1)) cap2) (1 + (t.k + 1)) ((Rc.be (1 + (t.k + 1)) (t.v * 256 / 4294967296)).map B8)
              rw [← hub.out, List.map_append, ← Nat.add_assoc]; exact hown4
            · show 16777216 ≤ t.r * 256 * 256 ^ gk
              have := hrt.out
              rw [Nat.pow_succ, Nat.mul_comm (256 ^ gk), ← Nat.mul_assoc] at this; exact this
            · rw [HSC.out, Rc.St.scale, if_pos hlt]
    · have hge : ¬ (t.r : Int) < 16777216 := by omega
      go_wp2_with fail
      go_end0
      refine ⟨rfl, o', cap', ?_, hon, ho'⟩
      have hst : Rc.St.scale gk t = t := by
        cases gk with
        | zero => rfl
        | succ gk => rw [Rc.St.scale, if_neg hlt]
      rw [HSC.out, hst]; exact hT
end Go.Proofs.Ytkckjjchfccdjaa

/- The walk over the coder's Bit, and over New. -/
namespace Go.Proofs.Ytkckjjchfccdjaa
set_option maxRecDepth 100000
open Go.RowKit

/-- What Bit comes to. -/
def BitDone (w : World) (g o : Nat) (bit : Int) (p : Nat) (t : Rc.St) (e : Ending) (w' : World) : Prop :=
  e = .returned (.tuple #[.int .i64 bit, .int .u16 (p : Nat)]) ∧ Shifted w g o t w'

theorem bound_u32 (r p : Nat) (hr : r < 4294967296) (hp : p ≤ 2047) : (((r : Int) / 2048) * (p : Int)) % 4294967296 = ((r / 2048 * p : Nat) : Int) := by
  have h : r / 2048 * p ≤ r / 2048 * 2047 := Nat.mul_le_mul_left _ hp
  have e : ((r : Int) / 2048) * (p : Int) = ((r / 2048 * p : Nat) : Int) := by simp
  rw [e]; omega

set_option maxRecDepth 100000 in
set_option maxHeartbeats 1000000 in
theorem bit_any (g o cap : Nat) (s : Rc.St) (c : BitVec 16) (bit : Int) (w : World) (hE : EncAt w g o cap s) (hs : s.ok) (hk : 1 + s.k + 2 ≤ 140737488355328) :
    Calls Try.prog 128 #[.pointer (some ⟨g, 0, none⟩), .int .u16 c.toNat, .int .i64 bit] w
      (BitDone w g o (bitI (bit != 0)) (Rc.next (Rc.fair c.toNat) (bit != 0)) (Rc.St.scale 2 (s.pick (Rc.fair c.toNat) (bit != 0)))) := by
  obtain ⟨hp1, hp2⟩ := Rc.fair_bounds c.toNat
  have hv := Lib.hid (fun w => valid_any c w)
  generalize Rc.fair c.toNat = p at *
  have hsr := hs.1.2
  have hbd := bound_u32 s.r p hsr hp2
  have hble : s.r / 2048 * p ≤ s.r / 2048 * 2047 := Nat.mul_le_mul_left _ hp2
  generalize hbn : s.r / 2048 * p = bnd at *
  have hblt : bnd < 4294967296 := by omega
  have hbr : bnd ≤ s.r := by omega
  have HBN := Lib.hid hbn
  clear hbn
  have c1 := cell1_of hE.blk
  have f1 := frozen_of_row w g 1 _ _ hE.blk
  by_cases hb : bit = 0
  · subst hb
    obtain ⟨hpf, hpr⟩ := s.pick_fits p false hs hp1 hp2
    have hmv := Lib.hid (fun w => moved_any p false w hp1 hp2)
    have e0 : bitI ((0 : Int) != 0) = 0 := rfl
    rw [e0, show ((0 : Int) != 0) = false from rfl]
    have hpk : s.pick p false = ⟨s.k, s.v, bnd⟩ := by rw [← HBN.out]; rfl
    rw [hpk] at hpf hpr ⊢
    have hE1 : EncAt (w.setCell ⟨g, 1, none⟩ (.int .u32 ((bnd : Nat) : Int))) g o cap ⟨s.k, s.v, bnd⟩ := ⟨blk_set1 hE.blk _, own_other hE.own hE.ne _, hE.ne⟩
    have hsh := Lib.hid (shift_any 2 g o cap ⟨s.k, s.v, bnd⟩ _ hE1 hpf (by show 1 + s.k + 2 ≤ _; exact hk) (by show 16777216 ≤ bnd * 256 ^ 2; have : 8192 ≤ bnd := hpr; omega))
    go_enter Try.func128, Try.ntmps128
    go_wp2_with fail
    refine (hv.out _).mono ?_
    rintro e w' ⟨rfl, rfl⟩
    go_wp2_with fail
    refine (hmv.out _).mono ?_
    rintro e w' ⟨rfl, rfl⟩
    go_wp2_with fail
    refine hsh.out.mono ?_
    rintro e w1 ⟨rfl, o', cap', hE2, hon, ho⟩
    go_wp2_with fail
    go_ret2
    exact ⟨rfl, o', cap', hE2, ((Only.refl _ _).setCell (p := ⟨g, 1, none⟩) (.inl (by simp)) _).trans hon (by simp), by rcases ho with h | h; exact .inl h; exact .inr (by simpa using h)⟩
  · have hbt : (bit != 0) = true := by rw [bne_iff_ne]; exact hb
    obtain ⟨hpf, hpr⟩ := s.pick_fits p true hs hp1 hp2
    have hmv := Lib.hid (fun w => moved_any p true w hp1 hp2)
    rw [hbt, show bitI true = 1 from rfl]
    have hpk : s.pick p true = ⟨s.k, s.v + bnd, s.r - bnd⟩ := by rw [← HBN.out]; rfl
    rw [hpk] at hpf hpr ⊢
    have hadd := Lib.hid (add_any g o cap s bnd w hE hblt (by omega))
    have hbt0 : (bit == 0) = false := beq_eq_false_iff_ne.2 hb
    have hsub : (s.r : Int) - (bnd : Int) = ((s.r - bnd : Nat) : Int) := by omega
    go_enter Try.func128, Try.ntmps128
    go_wp2_with fail
    refine (hv.out _).mono ?_
    rintro e w' ⟨rfl, rfl⟩
    go_wp2_with fail
    refine (hmv.out _).mono ?_
    rintro e w' ⟨rfl, rfl⟩
    go_wp2_with fail
    refine hadd.out.mono ?_
    rintro e w1 ⟨rfl, hEa, hona⟩
    have d1 := cell1_of hEa.blk
    have e1 := frozen_of_row w1 g 1 _ _ hEa.blk
    have hE1 : EncAt (w1.setCell ⟨g, 1, none⟩ (.int .u32 ((s.r - bnd : Nat) : Int))) g o cap ⟨s.k, s.v + bnd, s.r - bnd⟩ := ⟨blk_set1 hEa.blk _, own_other hEa.own hEa.ne _, hEa.ne⟩
    have hsh := Lib.hid (shift_any 2 g o cap ⟨s.k, s.v + bnd, s.r - bnd⟩ _ hE1 hpf (by show 1 + s.k + 2 ≤ _; exact hk) (by show 16777216 ≤ (s.r - bnd) * 256 ^ 2; have : 8192 ≤ s.r - bnd := hpr; omega))
    simp only at d1
    go_wp2_with fail
    refine hsh.out.mono ?_
    rintro e w2 ⟨rfl, o', cap', hE2, hon, ho⟩
    go_wp2_with fail
    go_ret2
    have hsz := hona.size
    exact ⟨rfl, o', cap', hE2, (hona.setCell (p := ⟨g, 1, none⟩) (.inl (by simp)) _).trans hon (by simp), by rcases ho with h | h; exact .inl h; exact .inr (by simp at h; omega)⟩

theorem be_one_zero : Rc.be (1 + 0) (0 / 4294967296) = [0] := by decide

/-- The coder at first. -/
def st0 : Rc.St := ⟨0, 0, 4294967295⟩
theorem st0_ok : st0.ok := ⟨⟨by decide, by decide⟩, by decide⟩
def NewDone (w : World) (e : Ending) (w' : World) : Prop := ∃ g o cap, e = .returned (.pointer (some ⟨g, 0, none⟩)) ∧ EncAt w' g o cap st0 ∧ Below w.heap.size w w' ∧ w.heap.size ≤ g ∧ w.heap.size ≤ o

set_option maxRecDepth 100000 in
set_option maxHeartbeats 400000 in
theorem new_any (w : World) : Calls Try.prog 48 #[] w (NewDone w) := by
  go_enter Try.func48, Try.ntmps48
  go_wp2_with fail
  go_ret
  refine ⟨w.heap.size + 1, w.heap.size, 1, rfl, ⟨?_, ?_, by omega⟩, ((Below.refl _ _).alloc (Nat.le_refl _) _).alloc (by simp) _, by omega, Nat.le_refl _⟩
  · have h := heap_alloc_new (w.alloc (.cells #[.int .u8 0] 5)) (.cells #[.int .u32 0, .int .u32 4294967295, .slice (some ⟨w.heap.size, 0, none⟩) 1 1] 148)
    have hsz : (w.alloc (.cells #[.int .u8 0] 5)).heap.size = w.heap.size + 1 := by simp
    rw [hsz] at h
    exact h
  · refine World.ownsRow.alloc ?_ _
    show World.ownsRow _ 0 _ 1 (.slice (some ⟨w.heap.size, 0, none⟩) (1 + 0) 1) (1 + 0) ((Rc.be (1 + 0) (0 / 4294967296)).map B8)
    rw [be_one_zero]
    exact World.ownsRow_lit (base := 0) (e := 5) (size := 1) w #[.int .u8 0] 1 (Nat.zero_le _) (by unfold maxLen; omega) (by decide)
end Go.Proofs.Ytkckjjchfccdjaa

/- Plain mathematics of the range coder, more: what scaling keeps; plain bits. -/
namespace Go.Proofs.Ytkckjjchfccdjaa.Rc

theorem St.scale_ok (N : Nat) (s : St) (hf : s.fits) (hr : 16777216 ≤ s.r * 256 ^ N) : (St.scale N s).ok := by
  induction N generalizing s with
  | zero => exact ⟨hf, by show 16777216 ≤ s.r; simpa using hr⟩
  | succ N ih =>
    rw [St.scale]
    by_cases h : s.r < 16777216
    · rw [if_pos h]
      refine ih _ (s.up_fits hf h) ?_
      show 16777216 ≤ s.r * 256 * 256 ^ N
      rw [Nat.pow_succ, Nat.mul_comm (256 ^ N), ← Nat.mul_assoc] at hr; exact hr
    · rw [if_neg h]; exact ⟨hf, by omega⟩
theorem St.scale_k (N : Nat) (s : St) : (St.scale N s).k ≤ s.k + N := by
  induction N generalizing s with
  | zero => exact Nat.le_refl _
  | succ N ih =>
    rw [St.scale]
    by_cases h : s.r < 16777216
    · rw [if_pos h]
      have := ih s.up
      have e : s.up.k = s.k + 1 := rfl
      omega
    · rw [if_neg h]; omega

/-- A bit. -/
def St.bit (s : St) (c : Nat) (one : Bool) : St := St.scale 2 (s.pick (fair c) one)
theorem St.pick_k (s : St) (p : Nat) (one : Bool) : (s.pick p one).k = s.k := by unfold St.pick; cases one <;> rfl
theorem St.bit_ok (s : St) (c : Nat) (one : Bool) (h : s.ok) : (s.bit c one).ok := by
  obtain ⟨h1, h2⟩ := fair_bounds c
  obtain ⟨hf, hr⟩ := s.pick_fits (fair c) one h h1 h2
  exact St.scale_ok 2 _ hf (by omega)
theorem St.bit_k (s : St) (c : Nat) (one : Bool) : (s.bit c one).k ≤ s.k + 2 := by
  have := St.scale_k 2 (s.pick (fair c) one)
  rw [St.pick_k] at this; exact this

/-- Half of the work of a plain bit. -/
def St.half (s : St) (one : Bool) : St := if one then ⟨s.k, s.v + s.r / 2, s.r / 2⟩ else ⟨s.k, s.v, s.r / 2⟩
theorem St.half_fits (s : St) (one : Bool) (h : s.ok) : (s.half one).fits ∧ 8388608 ≤ (s.half one).r := by
  obtain ⟨⟨hf1, hf2⟩, hr⟩ := h
  unfold St.half St.fits
  cases one
  · simp only [Bool.false_eq_true, if_false]; omega
  · simp only [if_true]; omega
/-- The n lowest bits of x, the most significant one first. -/
def St.plain (s : St) : Nat → Nat → St
  | _, 0 => s
  | x, n + 1 => St.scale 1 ((St.plain s (x / 2) n).half (x % 2 == 1))
theorem St.half_k (s : St) (one : Bool) : (s.half one).k = s.k := by unfold St.half; cases one <;> rfl
theorem St.plain_ok (s : St) (h : s.ok) (n x : Nat) : (s.plain x n).ok ∧ (s.plain x n).k ≤ s.k + n := by
  induction n generalizing x with
  | zero => exact ⟨h, Nat.le_refl _⟩
  | succ n ih =>
    obtain ⟨h1, h2⟩ := ih (x / 2)
    obtain ⟨hf, hr⟩ := (s.plain (x / 2) n).half_fits (x % 2 == 1) h1
    refine ⟨St.scale_ok 1 _ hf (by omega), ?_⟩
    have := St.scale_k 1 ((s.plain (x / 2) n).half (x % 2 == 1))
    rw [St.half_k] at this
    show (St.scale 1 _).k ≤ _
    omega
theorem St.ok_small (s : St) (h : s.ok) : s.v < 256 ^ (4 + s.k) := by
  obtain ⟨⟨h1, _⟩, h2⟩ := h; omega
end Go.Proofs.Ytkckjjchfccdjaa.Rc
