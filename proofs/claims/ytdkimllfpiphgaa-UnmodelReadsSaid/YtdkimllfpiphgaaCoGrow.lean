/- The reference's Grow. -/
import Derived.Test.YtdkimllfpiphgaaCoBecAll
namespace Go.Proofs.Ytdkimllfpiphgaa
open Go.RowKit

theorem Own.weaken {base base' : Nat} {w : World} {v : Value} {l : List UInt8} (h : Own base w v l) (hb : base' ≤ base) : Own base' w v l := by
  rcases h with ⟨h1, h2 | ⟨g, cap, cur, h2, h3, h4⟩⟩
  · exact ⟨h1, .inl h2⟩
  · exact ⟨h1, .inr ⟨g, cap, cur, h2, Nat.le_trans hb h3, h4⟩⟩
def growN (h : List UInt8) (back : Nat) : Nat → List UInt8
  | 0 => h
  | n + 1 => growN h back n ++ [(growN h back n).getD ((growN h back n).length - back) 0]
theorem growN_length (h : List UInt8) (back : Nat) : ∀ n, (growN h back n).length = h.length + n
  | 0 => rfl
  | n + 1 => by
    unfold growN
    rw [List.length_append, growN_length h back n]; rfl
def growS (h : List UInt8) (k : Int) (b : UInt8) (l : Nat) (back : Nat) : List UInt8 := if k = 0 then h ++ [b] else growN h back l
def GrowDone (L : List UInt8) (w : World) (e : Ending) (w' : World) : Prop := ∃ v, e = .returned v ∧ Own w.heap.size w' v L ∧ Below w.heap.size w w'
theorem empty_own (w : World) : Own w.heap.size (w.alloc (.cells #[] 5)) (.slice (some ⟨w.heap.size, 0, none⟩) 0 0) [] := Own.lit w [] (Nat.le_refl _) (by simp)
theorem lit_bytes (w : World) (x : UInt8) : Bytes (w.alloc (.cells #[.int .u8 (x.toNat : Nat)] 5)) (some ⟨w.heap.size, 0, none⟩) [x] := by
  refine .inr ⟨_, _, rfl, by simp, fun k hk => ?_⟩
  obtain rfl : k = 0 := by simpa using hk
  rw [Nat.zero_add, cell_of_row _ _ _ _ _ _ (heap_alloc_last _ _)]; rfl
set_option maxRecDepth 100000 in
set_option maxHeartbeats 1000000 in
theorem grow_any (A : Option Addr) (h : List UInt8) (c : Nat) (k : Int) (b : UInt8) (l : Nat) (d q : Int) (back : Nat) (w : World) (hB : Bytes w A h) (hc : h.length ≤ c) (hl : h.length ≤ 1000000) (hll : l ≤ 1000000) (hb : k ≠ 0 → 1 ≤ back ∧ back ≤ h.length) :
    Calls Try.prog 23 #[.slice A h.length c, SyV k b (l : Nat) d q, .int .i64 (back : Nat)] w (GrowDone (growS h k b l back) w) := by
  obtain ⟨W1, hW1⟩ : ∃ W1, w.alloc (.cells #[.int .i64 k, .int .u8 (b.toNat : Nat), .int .i64 (l : Nat), .int .i64 d, .int .i64 q] 58) = W1 := ⟨_, rfl⟩
  obtain ⟨W2, hW2⟩ : ∃ W2, W1.alloc (.cells #[] 5) = W2 := ⟨_, rfl⟩
  obtain ⟨y0, y1, y2, y3, y4, hbb⟩ := sy_box hW1
  have hb2 : Below W1.heap.size W1 W2 := by rw [← hW2]; exact (Below.refl _ _).alloc (Nat.le_refl _) _
  have ho2 : Own W1.heap.size W2 (.slice (some ⟨W1.heap.size, 0, none⟩) 0 0) [] := by rw [← hW2]; exact empty_own W1
  have hbw2 : Below w.heap.size w W2 := hbb.trans (hb2.mono hbb.size)
  have HSZ : Hid (w.heap.size < W1.heap.size) := Lib.hid (by rw [← hW1]; simp)
  have HSY := Lib.hid (fun (W : World) (hb : Below W1.heap.size W1 W) => (show W.cell? ⟨w.heap.size, 0, none⟩ = some (.int .i64 k) ∧ W.cell? ⟨w.heap.size, 1, none⟩ = some (.int .u8 (b.toNat : Nat)) ∧ W.cell? ⟨w.heap.size, 2, none⟩ = some (.int .i64 (l : Nat)) from
    ⟨(hb.cell (p := ⟨w.heap.size, 0, none⟩) HSZ.out).trans y0, (hb.cell (p := ⟨w.heap.size, 1, none⟩) HSZ.out).trans y1, (hb.cell (p := ⟨w.heap.size, 2, none⟩) HSZ.out).trans y2⟩))
  have HW1 := Lib.hid hW1
  have HW2 := Lib.hid hW2
  have HO2 := Lib.hid ho2
  have HB2 := Lib.hid hb2
  have HBW2 := Lib.hid hbw2
  have HBW1 := Lib.hid hbb
  have HBY := Lib.hid (hB.below hbw2)
  have HL := Lib.hid hl
  have HBK := Lib.hid hb
  clear hW1 hW2 y0 y1 y2 y3 y4 hbb hb2 ho2 hbw2 hB hl hb
  have hci : (h.length : Int) ≤ (c : Int) := by omega
  have hli : (h.length : Int) ≤ 1000000 := by have := HL.out; omega
  obtain ⟨G, hG⟩ : ∃ G, growS h k b l back = G := ⟨_, rfl⟩
  rw [hG]
  have HG := Lib.hid hG
  clear hG hc
  go_enter Try.func23, Try.ntmps23
  go_upto_region 1 with fail
  rw [HW1.out]
  go_upto_region 2 with (at_builtin; rw [HW2.out]; refine wpList_append_bytes rfl (.tmp 9) (.tmp 10) rfl W1.heap.size W2 _ [] rfl HO2.out A h c rfl HBY.out (by have := HL.out; simp; omega) HB2.out.size ?_; intro v1 w3 ho3 hg3; have HO3 := Lib.hid (show Own W1.heap.size w3 v1 h from ho3); have hb3 := below_grown HB2.out hg3 HB2.out.size (fun g e => (HO2.out.from_base g e).1); have HB3 := Lib.hid hb3; obtain ⟨s0, s1, s2⟩ := HSY.out w3 hb3; clear ho3 hg3 hb3)
  obtain ⟨A1, c1, rfl, hc1, hm1, hB1⟩ := HO3.out.read
  by_cases k0 : k = 0
  · have HG2 : Hid (G = h ++ [b]) := Lib.hid (by rw [← HG.out]; unfold growS; rw [if_pos k0])
    have k0b : (k == 0) = true := by rw [k0]; rfl
    obtain ⟨W4, hW4⟩ : ∃ W4, w3.alloc (.cells #[.int .u8 (b.toNat : Nat)] 5) = W4 := ⟨_, rfl⟩
    have hb4 : Below W1.heap.size W1 W4 := by rw [← hW4]; exact HB3.out.alloc HB3.out.size _
    have ho4 : Own W1.heap.size W4 (.slice A1 h.length c1) h := by rw [← hW4]; exact HO3.out.alloc _
    have hx4 : Bytes W4 (some ⟨w3.heap.size, 0, none⟩) [b] := by rw [← hW4]; exact lit_bytes w3 b
    have HW4 := Lib.hid hW4
    have HB4 := Lib.hid hb4
    have HO4 := Lib.hid ho4
    have HX4 := Lib.hid hx4
    clear hW4 hb4 ho4 hx4 k0 hB1
    go_wp2_with (at_builtin; rw [HW4.out]; refine wpList_append_bytes rfl (.tmp 15) (.tmp 18) rfl W1.heap.size W4 _ h rfl HO4.out (some ⟨w3.heap.size, 0, none⟩) [b] 1 rfl HX4.out (by have := HL.out; simp; omega) HB4.out.size ?_; intro v5 w5 ho5 hg5; have HO5 := Lib.hid (show Own W1.heap.size w5 v5 (h ++ [b]) from ho5); have HB5 := Lib.hid (below_grown HB4.out hg5 HB4.out.size (fun g e => (HO4.out.from_base g e).1)); clear ho5 hg5)
    go_ret
    exact ⟨_, rfl, by rw [HG2.out]; exact HO5.out.weaken (Nat.le_of_lt HSZ.out), HBW1.out.trans (HB5.out.mono HBW1.out.size)⟩
  · have HG2 : Hid (G = growN h back l) := Lib.hid (by rw [← HG.out]; unfold growS; rw [if_neg k0])
    have k0b : (k == 0) = false := by rw [beq_eq_false_iff_ne]; exact k0
    have hbk := HBK.out k0
    have hbi : (1 : Int) ≤ (back : Int) := by omega
    have hbh : (back : Int) ≤ (h.length : Int) := by omega
    clear k0 hB1
    have hll' : (l : Int) ≤ 1000000 := by omega
    go_wp2_with fail
    go_loopw [7, 8] (fun v i wr => ∃ (n : Nat) (vv : Value), n ≤ l ∧ vv = v ∧ i = .int .i64 (n : Nat) ∧ Hid (Own W1.heap.size wr vv (growN h back n)) ∧ Hid (Below W1.heap.size W1 wr)) (fun _ i _ => l - (intOf i).toNat)
    case atStart => exact ⟨0, _, by omega, rfl, rfl, HO3, HB3⟩
    case round =>
      obtain ⟨n, v, hn, rfl, rfl, HO, HBW⟩ := hrel
      clear s0 s1 s2
      obtain ⟨s0, s1, s2⟩ := HSY.out wr HBW.out
      by_cases hnl : n < l
      · have hni : (n : Int) < (l : Int) := by omega
        obtain ⟨T, hT⟩ : ∃ T, growN h back n = T := ⟨_, rfl⟩
        have hTl : T.length = h.length + n := by rw [← hT]; exact growN_length h back n
        rw [hT] at HO
        obtain ⟨A2, c2, rfl, hc2, hm2, hB2⟩ := HO.out.read
        have hLi : (T.length : Int) ≤ 2000000 := by have := HL.out; omega
        have hc2i : (T.length : Int) ≤ (c2 : Int) := by omega
        obtain ⟨x, hx⟩ : ∃ x, T.length - back = x := ⟨_, rfl⟩
        have hxi : (T.length : Int) - (back : Int) = (x : Int) := by omega
        have hxl : (x : Int) < (T.length : Int) := by omega
        obtain ⟨g, off, rfl, _, hat⟩ := hB2.addr (by omega)
        have cx := hat x (by omega)
        have e1 := getD_of (d := T) (i := x) (by omega)
        rw [← e1] at cx
        have HSUC : Hid (growN h back (n + 1) = T ++ [T.getD x 0]) := Lib.hid (by unfold growN; rw [hT, hx])
        generalize T.getD x 0 = u at *
        obtain ⟨W4, hW4⟩ : ∃ W4, wr.alloc (.cells #[.int .u8 (u.toNat : Nat)] 5) = W4 := ⟨_, rfl⟩
        have hb4 : Below W1.heap.size W1 W4 := by rw [← hW4]; exact HBW.out.alloc HBW.out.size _
        have ho4 : Own W1.heap.size W4 (.slice (some ⟨g, off, none⟩) T.length c2) T := by rw [← hW4]; exact HO.out.alloc _
        have hx4 : Bytes W4 (some ⟨wr.heap.size, 0, none⟩) [u] := by rw [← hW4]; exact lit_bytes wr u
        have HW4 := Lib.hid hW4
        have HB4 := Lib.hid hb4
        have HO4 := Lib.hid ho4
        have HX4 := Lib.hid hx4
        have HTL : Hid (T.length ≤ 2000000) := Lib.hid (by omega)
        clear hW4 hb4 ho4 hx4 hT hTl hc2 hm2 hB2 hx hat e1
        go_wp2_with (at_builtin; rw [HW4.out]; refine wpList_append_bytes rfl (.tmp 26) (.tmp 34) rfl W1.heap.size W4 _ T rfl HO4.out (some ⟨wr.heap.size, 0, none⟩) [u] 1 rfl HX4.out (by have := HTL.out; simp; omega) HB4.out.size ?_; intro v5 w5 ho5 hg5; have HO5 : Hid (Own W1.heap.size w5 v5 (growN h back (n + 1))) := Lib.hid (by rw [HSUC.out]; exact ho5); have HB5 := Lib.hid (below_grown HB4.out hg5 HB4.out.size (fun g e => (HO4.out.from_base g e).1)); clear ho5 hg5)
        exact ⟨⟨n + 1, _, by omega, rfl, by go_num, HO5, HB5⟩, by simp [intOf]; omega⟩
      · obtain rfl : n = l := by omega
        go_wp2_with fail
        go_ret
        exact ⟨_, rfl, by rw [HG2.out]; exact HO.out.weaken (Nat.le_of_lt HSZ.out), HBW1.out.trans (HBW.out.mono HBW1.out.size)⟩
end Go.Proofs.Ytdkimllfpiphgaa
