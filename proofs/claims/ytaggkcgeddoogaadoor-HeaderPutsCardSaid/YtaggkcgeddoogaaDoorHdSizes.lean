/- header.readSizes. -/
import Derived.Test.YtaggkcgeddoogaaDoorHdFils
import Derived.Deep.DeepCutAuto
namespace Go.Proofs.YtaggkcgeddoogaaDoor
open Go.RowKit

/-- A block of one head. -/
def Blk4 (r : Nat) (w : World) (a b c d : Value) : Prop := w.heap[r]? = some (.cells #[a, b, c, d] 25 (0, 0))
theorem Blk4.cells {r : Nat} {w : World} {a b c d : Value} (h : Blk4 r w a b c d) : w.cell? ⟨r, 0, none⟩ = some a ∧ w.cell? ⟨r, 1, none⟩ = some b ∧ w.cell? ⟨r, 2, none⟩ = some c ∧ w.cell? ⟨r, 3, none⟩ = some d := by
  refine ⟨?_, ?_, ?_, ?_⟩ <;> (rw [cell_of_row w r _ _ _ _ h]; rfl)
theorem Blk4.frozen {r : Nat} {w : World} {a b c d : Value} (h : Blk4 r w a b c d) (i : Nat) : w.frozen? ⟨r, i, none⟩ = false := by
  simp [World.frozen?, show w.heap[r]? = _ from h]
theorem Blk4.set0 {r : Nat} {w : World} {a b c d : Value} (h : Blk4 r w a b c d) (u : Value) : Blk4 r (w.setCell ⟨r, 0, none⟩ u) u b c d := heap_set (L := [a, b, c, d]) h 0 u
theorem Blk4.set1 {r : Nat} {w : World} {a b c d : Value} (h : Blk4 r w a b c d) (u : Value) : Blk4 r (w.setCell ⟨r, 1, none⟩ u) a u c d := heap_set (L := [a, b, c, d]) h 1 u
theorem Blk4.set2 {r : Nat} {w : World} {a b c d : Value} (h : Blk4 r w a b c d) (u : Value) : Blk4 r (w.setCell ⟨r, 2, none⟩ u) a b u d := heap_set (L := [a, b, c, d]) h 2 u
theorem Blk4.set3 {r : Nat} {w : World} {a b c d : Value} (h : Blk4 r w a b c d) (u : Value) : Blk4 r (w.setCell ⟨r, 3, none⟩ u) a b c u := heap_set (L := [a, b, c, d]) h 3 u
theorem Blk4.ret {r : Nat} {w : World} {a b c d : Value} (h : Blk4 r w a b c d) (p q s t : Value) : (w.setCell ⟨r, 0, none⟩ p).cell? ⟨r, 0, none⟩ = some p ∧ ((w.setCell ⟨r, 0, none⟩ p).setCell ⟨r, 1, none⟩ q).cell? ⟨r, 1, none⟩ = some q ∧
    (((w.setCell ⟨r, 0, none⟩ p).setCell ⟨r, 1, none⟩ q).setCell ⟨r, 2, none⟩ s).cell? ⟨r, 2, none⟩ = some s ∧ ((((w.setCell ⟨r, 0, none⟩ p).setCell ⟨r, 1, none⟩ q).setCell ⟨r, 2, none⟩ s).setCell ⟨r, 3, none⟩ t).cell? ⟨r, 3, none⟩ = some t :=
  ⟨(h.set0 p).cells.1, ((h.set0 p).set1 q).cells.2.1, (((h.set0 p).set1 q).set2 s).cells.2.2.1, ((((h.set0 p).set1 q).set2 s).set3 t).cells.2.2.2⟩
theorem Blk4.keep {bo r : Nat} {w w' : World} {a b c d : Value} (h : Blk4 r w a b c d) (hk : KeepBut bo w w') (hr : r ≠ bo) : Blk4 r w' a b c d := (hk.2 r hr).trans h
theorem Blk4.other {r g i : Nat} {w : World} {a b c d u : Value} (h : Blk4 r w a b c d) (hg : g ≠ r) : Blk4 r (w.setCell ⟨g, i, none⟩ u) a b c d := (heap_setCell_other _ _ _ _ (fun e => hg e.symm)).trans h
theorem and_bit : ∀ s : Fin 256, bits .and .u8 (s.val : Int) 64 = (if s.val / 64 % 2 = 1 then 64 else 0) ∧ bits .and .u8 (s.val : Int) 128 = (if s.val / 128 = 1 then 128 else 0) ∧ bits .and .u8 (s.val : Int) 3 = ((s.val % 4 : Nat) : Int) ∧ (bits .and .u8 (s.val : Int) 60 = 0 ↔ s.val / 4 % 16 = 0) := by decide +kernel
def HSizesDone (bo s : Nat) (l : List UInt8) (w : World) (e : Ending) (w' : World) : Prop :=
  Below bo w w' ∧ KeepOld bo w w' ∧ match sizesM s l with
  | none => e = .returned (.tuple #[.agg #[.int .i64 0, .int .i64 0, .slice none 0 0, .int .u32 0], .int .i64 4])
  | some (p, q, l2) => e = .returned (.tuple #[.agg #[.int .i64 p, .int .i64 q, .slice none 0 0, .int .u32 0], .int .i64 0]) ∧ Rest bo w' l2
theorem HSizesDone.err {bo s : Nat} {l : List UInt8} {w w' : World} (h : sizesM s l = none) (hb : Below bo w w') (hk : KeepOld bo w w') : HSizesDone bo s l w (.returned (.tuple #[.agg #[.int .i64 0, .int .i64 0, .slice none 0 0, .int .u32 0], .int .i64 4])) w' := by
  unfold HSizesDone; rw [h]; exact ⟨hb, hk, rfl⟩
theorem HSizesDone.yes {bo s : Nat} {p q : Int} {l l2 : List UInt8} {w w' : World} (h : sizesM s l = some (p, q, l2)) (hb : Below bo w w') (hk : KeepOld bo w w') (hr : Rest bo w' l2) : HSizesDone bo s l w (.returned (.tuple #[.agg #[.int .i64 p, .int .i64 q, .slice none 0 0, .int .u32 0], .int .i64 0])) w' := by
  unfold HSizesDone; rw [h]; exact ⟨hb, hk, rfl, hr⟩
/-- What stands behind either part. -/
def SizI (bo : Nat) (w : World) (p q : Int) (l : List UInt8) (wx : World) : Prop :=
  Blk4 w.heap.size wx (.int .i64 0) (.int .i64 0) (.slice none 0 0) (.int .u32 0) ∧ Blk4 (w.heap.size + 1) wx (.int .i64 p) (.int .i64 q) (.slice none 0 0) (.int .u32 0) ∧ Rest bo wx l ∧ Below bo w wx ∧ KeepOld bo w wx
theorem sizesM_of (s : Nat) (l : List UInt8) : sizesM s l = match optM (s / 64 % 2 == 1) true l with
  | none => none
  | some (p, l1) => match optM (s / 128 == 1) false l1 with
    | none => none
    | some (q, l2) => some (p, q, l2) := rfl
theorem optM_len {here z : Bool} {l l' : List UInt8} {p : Int} (h : optM here z l = some (p, l')) : l'.length ≤ l.length ∧ -1 ≤ p ∧ p < 9223372036854775808 := by
  unfold optM at h
  split at h
  · split at h
    · cases h
    · rename_i n l1 hn
      split at h
      · cases h
      · injection h with h; injection h with h1 h2
        subst h1; subst h2
        have := next_some hn
        exact ⟨by omega, by omega, by omega⟩
  · injection h with h; injection h with h1 h2
    subst h1; subst h2
    exact ⟨Nat.le_refl _, by omega, by omega⟩

set_option maxRecDepth 100000 in
set_option maxHeartbeats 2000000 in
theorem hsizes_any (bo s : Nat) (l : List UInt8) (w : World) (hR : Rest bo w l) (hl : l.length ≤ 1000000) (hs : s < 256) :
    Calls Tryd.prog 25 #[.int .u8 (s : Nat), .func (.func 22) #[] #[.pointer (some ⟨bo, 0, none⟩)]] w (HSizesDone bo s l w) := by
  have hlt := hR.lt
  obtain ⟨w0, hw0⟩ : ∃ w0, (w.alloc (.cells #[.int .i64 0, .int .i64 0, .slice none 0 0, .int .u32 0] 25)).alloc (.cells #[.int .i64 (-1), .int .i64 (-1), .slice none 0 0, .int .u32 0] 25) = w0 := ⟨_, rfl⟩
  have hI0 : Hid (SizI bo w (-1) (-1) l w0) := Lib.hid (by
    have h1 : (w.alloc (.cells #[.int .i64 0, .int .i64 0, .slice none 0 0, .int .u32 0] 25)).heap[w.heap.size]? = _ := heap_alloc_last _ _
    have h2 := heap_alloc_last (w.alloc (.cells #[.int .i64 0, .int .i64 0, .slice none 0 0, .int .u32 0] 25)) (.cells #[.int .i64 (-1), .int .i64 (-1), .slice none 0 0, .int .u32 0] 25)
    rw [World.size_alloc] at h2
    rw [← hw0]
    exact ⟨(Below.heap_alloc _ _ _ (by simp)).trans h1, h2, (hR.alloc _).alloc _, ((Below.refl _ _).alloc (by omega) _).alloc (by simp; omega) _, Below.old (((Below.refl _ _).alloc (Nat.le_refl _) _).alloc (by simp) _)⟩)
  have HW0 := Lib.hid hw0
  clear hw0
  obtain ⟨ha64, ha128, _, _⟩ := and_bit ⟨s, hs⟩
  simp only at ha64 ha128
  have HSM := Lib.hid (sizesM_of s l)
  obtain ⟨b1, hb1⟩ : ∃ b1, (s / 64 % 2 == 1) = b1 := ⟨_, rfl⟩
  obtain ⟨b2, hb2⟩ : ∃ b2, (s / 128 == 1) = b2 := ⟨_, rfl⟩
  rw [hb1, hb2] at HSM
  have HA1 : Hid (bits .and .u8 (s : Int) 64 = if b1 = true then 64 else 0) := Lib.hid (by rw [ha64, ← hb1]; simp)
  have HA2 : Hid (bits .and .u8 (s : Int) 128 = if b2 = true then 128 else 0) := Lib.hid (by rw [ha128, ← hb2]; simp)
  clear ha64 ha128 hb1 hb2
  go_enter Tryd.func25, Tryd.ntmps25
  go_upto_region 2 with fail
  rw [HW0.out]
  have HST := Lib.hid (fun (wx : World) (h : Below bo w wx) (i : Nat) (u : Value) => (Below.setCell (p := ⟨w.heap.size + 1, i, none⟩) h (by show bo ≤ w.heap.size + 1; omega) u))
  have HRT := Lib.hid (fun (wx : World) (lx : List UInt8) (h : Rest bo wx lx) (i : Nat) (u : Value) => h.keep (Below.setCell (p := ⟨w.heap.size + 1, i, none⟩) (Below.refl _ _) (by show bo + 1 ≤ w.heap.size + 1; omega) u))
  have HRET := Lib.hid (fun (wx : World) (h : Below bo w wx) (a b c d : Value) => (show Below bo w ((((wx.setCell ⟨w.heap.size, 0, none⟩ a).setCell ⟨w.heap.size, 1, none⟩ b).setCell ⟨w.heap.size, 2, none⟩ c).setCell ⟨w.heap.size, 3, none⟩ d) from
    Below.setCell (p := ⟨w.heap.size, 3, none⟩) (Below.setCell (p := ⟨w.heap.size, 2, none⟩) (Below.setCell (p := ⟨w.heap.size, 1, none⟩) (Below.setCell (p := ⟨w.heap.size, 0, none⟩) h (by show bo ≤ w.heap.size; omega) a) (by show bo ≤ w.heap.size; omega) b) (by show bo ≤ w.heap.size; omega) c) (by show bo ≤ w.heap.size; omega) d))
  have HRETK := Lib.hid (fun (wx : World) (h : KeepOld bo w wx) (a b c d : Value) => (show KeepOld bo w ((((wx.setCell ⟨w.heap.size, 0, none⟩ a).setCell ⟨w.heap.size, 1, none⟩ b).setCell ⟨w.heap.size, 2, none⟩ c).setCell ⟨w.heap.size, 3, none⟩ d) from
    (((h.set (Nat.le_refl _) a).set (Nat.le_refl _) b).set (Nat.le_refl _) c).set (Nat.le_refl _) d))
  have HRETR := Lib.hid (fun (wx : World) (lx : List UInt8) (h : Rest bo wx lx) (a b c d : Value) => (show Rest bo ((((wx.setCell ⟨w.heap.size, 0, none⟩ a).setCell ⟨w.heap.size, 1, none⟩ b).setCell ⟨w.heap.size, 2, none⟩ c).setCell ⟨w.heap.size, 3, none⟩ d) lx from
    h.keep (Below.setCell (p := ⟨w.heap.size, 3, none⟩) (Below.setCell (p := ⟨w.heap.size, 2, none⟩) (Below.setCell (p := ⟨w.heap.size, 1, none⟩) (Below.setCell (p := ⟨w.heap.size, 0, none⟩) (Below.refl _ _) (by show bo + 1 ≤ w.heap.size; omega) a) (by show bo + 1 ≤ w.heap.size; omega) b) (by show bo + 1 ≤ w.heap.size; omega) c) (by show bo + 1 ≤ w.heap.size; omega) d)))
  clear HW0
  go_upto_if 14 with fail
  go_cut [] from 11 (fun wx => ∃ p l1, optM b1 true l = some (p, l1) ∧ SizI bo w p (-1) l1 wx)
  case first =>
    cases b1 with
    | false =>
      have ha := HA1.out
      rw [if_neg (by simp)] at ha
      go_wp2_with fail
      go_meet
      exact ⟨-1, l, rfl, hI0.out⟩
    | true =>
      have ha := HA1.out
      rw [if_pos rfl] at ha
      obtain ⟨hz, hh, hr, hb, hk⟩ := hI0.out
      have HN := Lib.hid (hnext_any bo l w0 hr (by omega))
      have HOM := Lib.hid (show optM true true l = (match nextM l with
        | none => none
        | some (n, l') => if (true && n == 0) = true then none else some ((n : Int), l')) from rfl)
      go_wp2_with fail
      refine HN.out.mono ?_
      rintro e w1 ⟨hb1, hk1, hd1⟩
      have hz1 := hz.keep hk1 (by omega)
      have hh1 := hh.keep hk1 (by omega)
      have HB1 := Lib.hid (hb.trans hb1)
      have HK1 := Lib.hid (hk.trans hk1.old)
      have HZ1 := Lib.hid hz1
      have HH1 := Lib.hid hh1
      obtain ⟨z0, z1, z2, z3⟩ := hz1.cells
      have zf0 := hz1.frozen 0
      have zf1 := hz1.frozen 1
      have zf2 := hz1.frozen 2
      have zf3 := hz1.frozen 3
      cases hn : nextM l with
      | none =>
        rw [hn] at hd1 HOM
        obtain rfl := hd1
        have HNO : Hid (sizesM s l = none) := Lib.hid (by rw [HSM.out, HOM.out])
        clear hn hk1 hb1 hz hh hb hk hr hz1 hh1
        go_wp2_with fail
        obtain ⟨k0, k1, k2, k3⟩ := Blk4.ret HZ1.out (.int .i64 0) (.int .i64 0) (.slice none 0 0) (.int .u32 0)
        exact bodyPost_ret (v := .tuple #[.agg #[.int .i64 0, .int .i64 0, .slice none 0 0, .int .u32 0], .int .i64 4]) (by simp [results, Tryd.results25, go_sem, k0, k1, k2, k3]) rfl (HSizesDone.err HNO.out (HRET.out w1 HB1.out _ _ _ _) (HRETK.out w1 HK1.out _ _ _ _))
      | some r1 =>
        obtain ⟨n, l'⟩ := r1
        rw [hn] at hd1 HOM
        obtain ⟨rfl, hR1⟩ := hd1
        obtain ⟨hnb, hln, _⟩ := next_some hn
        have hni : (n : Int) < 9223372036854775808 := by omega
        have HR1 := Lib.hid hR1
        by_cases hn0 : n = 0
        · subst hn0
          have HNO : Hid (sizesM s l = none) := Lib.hid (by rw [HSM.out, HOM.out]; rfl)
          clear hn hk1 hb1 hz hh hb hk hr hz1 hh1
          go_wp2_with fail
          obtain ⟨k0, k1, k2, k3⟩ := Blk4.ret HZ1.out (.int .i64 0) (.int .i64 0) (.slice none 0 0) (.int .u32 0)
          exact bodyPost_ret (v := .tuple #[.agg #[.int .i64 0, .int .i64 0, .slice none 0 0, .int .u32 0], .int .i64 4]) (by simp [results, Tryd.results25, go_sem, k0, k1, k2, k3]) rfl (HSizesDone.err HNO.out (HRET.out w1 HB1.out _ _ _ _) (HRETK.out w1 HK1.out _ _ _ _))
        · have hn1 : ((n : Int) == 0) = false := by simp; omega
          have HF : Hid (optM true true l = some ((n : Int), l')) := Lib.hid (by rw [HOM.out]; simp [hn0])
          obtain ⟨y0, y1, y2, y3⟩ := HH1.out.cells
          have yf := HH1.out.frozen 0
          clear hn hk1 hb1 hz hh hb hk hr hz1 hh1 hnb hln hR1 hn0
          go_wp2_with fail
          go_meet
          exact ⟨(n : Int), l', HF.out, HZ1.out.other (by omega), HH1.out.set0 _, HRT.out _ _ HR1.out 0 _, HST.out _ HB1.out 0 _, HK1.out.set (by omega) _⟩
  case rest =>
  obtain ⟨p, l1, hp, hi1⟩ := hcut
  have hpl := optM_len hp
  have HSM1 : Hid (sizesM s l = match optM b2 false l1 with
    | none => none
    | some (q, l2) => some (p, q, l2)) := Lib.hid (by rw [HSM.out, hp])
  have HI1 := Lib.hid hi1
  clear hi1 hI0 HA1 hp
  go_upto_if 32 with fail
  go_cut [] from 11 (fun wx => ∃ q l2, optM b2 false l1 = some (q, l2) ∧ SizI bo w p q l2 wx)
  case first =>
    cases b2 with
    | false =>
      have ha := HA2.out
      rw [if_neg (by simp)] at ha
      go_wp2_with fail
      go_meet
      exact ⟨-1, l1, rfl, HI1.out⟩
    | true =>
      have ha := HA2.out
      rw [if_pos rfl] at ha
      obtain ⟨hz, hh, hr, hb, hk⟩ := HI1.out
      have HN := Lib.hid (hnext_any bo l1 wc hr (by omega))
      have HOM := Lib.hid (show optM true false l1 = (match nextM l1 with
        | none => none
        | some (n, l') => if (false && n == 0) = true then none else some ((n : Int), l')) from rfl)
      go_wp2_with fail
      refine HN.out.mono ?_
      rintro e w1 ⟨hb1, hk1, hd1⟩
      have hz1 := hz.keep hk1 (by omega)
      have hh1 := hh.keep hk1 (by omega)
      have HB1 := Lib.hid (hb.trans hb1)
      have HK1 := Lib.hid (hk.trans hk1.old)
      have HZ1 := Lib.hid hz1
      have HH1 := Lib.hid hh1
      obtain ⟨z0, z1, z2, z3⟩ := hz1.cells
      have zf0 := hz1.frozen 0
      have zf1 := hz1.frozen 1
      have zf2 := hz1.frozen 2
      have zf3 := hz1.frozen 3
      cases hn : nextM l1 with
      | none =>
        rw [hn] at hd1 HOM
        obtain rfl := hd1
        have HNO : Hid (sizesM s l = none) := Lib.hid (by rw [HSM1.out, HOM.out])
        clear hn hk1 hb1 hz hh hb hk hr hz1 hh1
        go_wp2_with fail
        obtain ⟨k0, k1, k2, k3⟩ := Blk4.ret HZ1.out (.int .i64 0) (.int .i64 0) (.slice none 0 0) (.int .u32 0)
        exact bodyPost_ret (v := .tuple #[.agg #[.int .i64 0, .int .i64 0, .slice none 0 0, .int .u32 0], .int .i64 4]) (by simp [results, Tryd.results25, go_sem, k0, k1, k2, k3]) rfl (HSizesDone.err HNO.out (HRET.out w1 HB1.out _ _ _ _) (HRETK.out w1 HK1.out _ _ _ _))
      | some r1 =>
        obtain ⟨n, l'⟩ := r1
        rw [hn] at hd1 HOM
        obtain ⟨rfl, hR1⟩ := hd1
        obtain ⟨hnb, hln, _⟩ := next_some hn
        have hni : (n : Int) < 9223372036854775808 := by omega
        have HR1 := Lib.hid hR1
        have HF : Hid (optM true false l1 = some ((n : Int), l')) := Lib.hid (by rw [HOM.out]; rfl)
        obtain ⟨y0, y1, y2, y3⟩ := HH1.out.cells
        have yf := HH1.out.frozen 1
        clear hn hk1 hb1 hz hh hb hk hr hz1 hh1 hnb hln hR1
        go_wp2_with fail
        go_meet
        exact ⟨(n : Int), l', HF.out, HZ1.out.other (by omega), HH1.out.set1 _, HRT.out _ _ HR1.out 1 _, HST.out _ HB1.out 1 _, HK1.out.set (by omega) _⟩
  case rest =>
  obtain ⟨q, l2, hq, hi2⟩ := hcut
  have HYES : Hid (sizesM s l = some (p, q, l2)) := Lib.hid (by rw [HSM1.out, hq])
  obtain ⟨hz, hh, hr, hb, hk⟩ := hi2
  have HZ1 := Lib.hid hz
  have HB1 := Lib.hid hb
  have HK1 := Lib.hid hk
  have HR1 := Lib.hid hr
  obtain ⟨y0, y1, y2, y3⟩ := hh.cells
  obtain ⟨z0, z1, z2, z3⟩ := hz.cells
  have zf0 := hz.frozen 0
  have zf1 := hz.frozen 1
  have zf2 := hz.frozen 2
  have zf3 := hz.frozen 3
  clear hz hh hr hb hk hq HI1 hpl
  go_wp2_with fail
  obtain ⟨k0, k1, k2, k3⟩ := Blk4.ret HZ1.out (.int .i64 p) (.int .i64 q) (.slice none 0 0) (.int .u32 0)
  exact bodyPost_ret (v := .tuple #[.agg #[.int .i64 p, .int .i64 q, .slice none 0 0, .int .u32 0], .int .i64 0]) (by simp [results, Tryd.results25, go_sem, k0, k1, k2, k3]) rfl (HSizesDone.yes HYES.out (HRET.out wc HB1.out _ _ _ _) (HRETK.out wc HK1.out _ _ _ _) (HRETR.out wc l2 HR1.out _ _ _ _))
end Go.Proofs.YtaggkcgeddoogaaDoor
