/- header.readFilter. -/
import Derived.Test.YtaggkcgeddoogaaDoorHdNext
namespace Go.Proofs.YtaggkcgeddoogaaDoor
open Go.RowKit

def HOneDone (bo : Nat) (l : List UInt8) (w : World) (e : Ending) (w' : World) : Prop :=
  e = .returned (.tuple #[(oneM l).1.agg, .int .i64 ((oneM l).2.2 : Nat)]) ∧ Below bo w w' ∧ KeepOld bo w w' ∧ ((oneM l).2.2 = 0 → Rest bo w' (oneM l).2.1)
/-- A block of one filter. -/
def FilBox (r : Nat) (w : World) (f : Fil) : Prop := w.heap[r]? = some (.cells #[.int .i64 f.id, .int .u32 (f.n : Nat)] 48 (0, 0))
theorem FilBox.cells {r : Nat} {w : World} {f : Fil} (h : FilBox r w f) : w.cell? ⟨r, 0, none⟩ = some (.int .i64 f.id) ∧ w.cell? ⟨r, 1, none⟩ = some (.int .u32 (f.n : Nat)) ∧ w.frozen? ⟨r, 0, none⟩ = false ∧ w.frozen? ⟨r, 1, none⟩ = false := by
  refine ⟨?_, ?_, ?_, ?_⟩
  · rw [cell_of_row w r 0 _ _ _ h]; rfl
  · rw [cell_of_row w r 1 _ _ _ h]; rfl
  · simp [World.frozen?, show w.heap[r]? = _ from h]
  · simp [World.frozen?, show w.heap[r]? = _ from h]
theorem FilBox.set1 {r : Nat} {w : World} {f : Fil} (h : FilBox r w f) (i : Int) : FilBox r (w.setCell ⟨r, 0, none⟩ (.int .i64 i)) ⟨i, f.n⟩ := heap_set (L := [.int .i64 f.id, .int .u32 (f.n : Nat)]) h 0 (.int .i64 i)
theorem FilBox.set2 {r : Nat} {w : World} {f : Fil} (h : FilBox r w f) (i : Int) (n : Nat) : FilBox r ((w.setCell ⟨r, 0, none⟩ (.int .i64 i)).setCell ⟨r, 1, none⟩ (.int .u32 (n : Nat))) ⟨i, n⟩ := by
  have h1 := heap_set (L := [.int .i64 f.id, .int .u32 (f.n : Nat)]) h 0 (.int .i64 i)
  exact heap_set (L := [.int .i64 i, .int .u32 (f.n : Nat)]) h1 1 (.int .u32 (n : Nat))
theorem FilBox.zero {r : Nat} {w : World} {f : Fil} (h : FilBox r w f) : ((w.setCell ⟨r, 0, none⟩ (.int .i64 0)).setCell ⟨r, 1, none⟩ (.int .u32 0)).cell? ⟨r, 1, none⟩ = some (.int .u32 0) := (h.set2 0 0).cells.2.1
theorem Rest.alloc {bo : Nat} {w : World} {l : List UInt8} (h : Rest bo w l) (o : Obj) : Rest bo (w.alloc o) l := by
  have hlt : bo + 1 ≤ w.heap.size := by obtain ⟨A, c, h1, _⟩ := h; exact h1.lt
  exact h.keep ((Below.refl _ _).alloc hlt _)
theorem Rest.lt {bo : Nat} {w : World} {l : List UInt8} (h : Rest bo w l) : bo < w.heap.size := by obtain ⟨A, c, h1, _⟩ := h; exact h1.lt

set_option maxRecDepth 100000 in
set_option maxHeartbeats 2000000 in
theorem hone_any (bo : Nat) (l : List UInt8) (w : World) (hR : Rest bo w l) (hl : l.length ≤ 1000000) :
    Calls Tryd.prog 40 #[.func (.func 22) #[] #[.pointer (some ⟨bo, 0, none⟩)], .func (.func 24) #[] #[.pointer (some ⟨bo, 0, none⟩)]] w (HOneDone bo l w) := by
  have hlt := hR.lt
  have HB0 : Hid (Below bo w (w.alloc (.cells #[.int .i64 0, .int .u32 0] 48))) := Lib.hid ((Below.refl _ _).alloc (by omega) _)
  have HF0 : Hid (FilBox w.heap.size (w.alloc (.cells #[.int .i64 0, .int .u32 0] 48)) ⟨0, 0⟩) := Lib.hid (heap_alloc_last _ _)
  have HN0 := Lib.hid (hnext_any bo l (w.alloc (.cells #[.int .i64 0, .int .u32 0] 48)) (hR.alloc _) hl)
  have HM : Hid (oneM l = match nextM l with
    | none => (⟨0, 0⟩, [], 4)
    | some (id, l1) => match nextM l1 with
      | none => (⟨0, 0⟩, [], 4)
      | some (n, l2) => if l2.length < n then (⟨0, 0⟩, [], 4) else if 2147483648 ≤ id then (⟨0, 0⟩, [], 5) else match readL (id : Int) (l2.take n) with
        | none => (⟨0, 0⟩, [], 5)
        | some f => (f, l2.drop n, 0)) := Lib.hid rfl
  have HD := Lib.hid (show HOneDone bo l w = fun e w' => e = .returned (.tuple #[(oneM l).1.agg, .int .i64 ((oneM l).2.2 : Nat)]) ∧ Below bo w w' ∧ KeepOld bo w w' ∧ ((oneM l).2.2 = 0 → Rest bo w' (oneM l).2.1) from rfl)
  have HSET : Hid (∀ (wx : World) (u1 u2 : Value), Below bo w wx → Below bo w ((wx.setCell ⟨w.heap.size, 0, none⟩ u1).setCell ⟨w.heap.size, 1, none⟩ u2)) := Lib.hid (fun wx u1 u2 h => Below.setCell (p := ⟨w.heap.size, 1, none⟩) (Below.setCell (p := ⟨w.heap.size, 0, none⟩) h (by show bo ≤ w.heap.size; omega) _) (by show bo ≤ w.heap.size; omega) _)
  have HSK : Hid (∀ (wx : World) (u1 u2 : Value), KeepOld bo w wx → KeepOld bo w ((wx.setCell ⟨w.heap.size, 0, none⟩ u1).setCell ⟨w.heap.size, 1, none⟩ u2)) := Lib.hid (fun wx u1 u2 h => (h.set (Nat.le_refl _) u1).set (Nat.le_refl _) u2)
  have HK0 : Hid (KeepOld bo w (w.alloc (.cells #[.int .i64 0, .int .u32 0] 48))) := Lib.hid (Below.old ((Below.refl _ _).alloc (Nat.le_refl _) _))
  rw [HD.out]
  clear HD
  generalize oneM l = R at *
  have hwsz : (w.alloc (.cells #[.int .i64 0, .int .u32 0] 48)).heap.size = w.heap.size + 1 := by simp
  have HWS := Lib.hid hwsz
  clear hwsz
  go_enter Tryd.func40, Tryd.ntmps40
  go_wp2_with fail
  refine HN0.out.mono ?_
  rintro e w1 ⟨hb1, hk1, hd1⟩
  have hf1 : FilBox w.heap.size w1 ⟨0, 0⟩ := (hk1.2 _ (by omega)).trans HF0.out
  have hb01 := HB0.out.trans hb1
  have ko1 := Lib.hid (HK0.out.trans hk1.old)
  obtain ⟨c0, c1, f0, f1⟩ := hf1.cells
  simp only at c0 c1
  cases hn : nextM l with
  | none =>
    rw [hn] at hd1 HM
    obtain rfl := hd1
    obtain rfl : R = (⟨0, 0⟩, [], 4) := HM.out
    clear HM hn hk1
    go_wp2_with fail
    have k1 := FilBox.zero hf1
    obtain ⟨k0, _, _, _⟩ := (FilBox.set1 hf1 0).cells
    simp only at k0
    exact bodyPost_ret (v := .tuple #[.agg #[.int .i64 0, .int .u32 0], .int .i64 4]) (by simp [results, Tryd.results40, go_sem, k0, k1]) rfl ⟨rfl, HSET.out w1 _ _ hb01, HSK.out w1 _ _ ko1.out⟩
  | some r1 =>
    obtain ⟨id, l1⟩ := r1
    rw [hn] at hd1 HM
    obtain ⟨rfl, hR1⟩ := hd1
    obtain ⟨hid, hl1, _⟩ := next_some hn
    have HN1 := Lib.hid (hnext_any bo l1 w1 hR1 (by omega))
    have HM1 : Hid (R = match nextM l1 with
      | none => (⟨0, 0⟩, [], 4)
      | some (n, l2) => if l2.length < n then (⟨0, 0⟩, [], 4) else if 2147483648 ≤ id then (⟨0, 0⟩, [], 5) else match readL (id : Int) (l2.take n) with
        | none => (⟨0, 0⟩, [], 5)
        | some f => (f, l2.drop n, 0)) := Lib.hid HM.out
    have hidI : (id : Int) < 9223372036854775808 := by omega
    have hz1 : w1.heap.size = w.heap.size + 1 := by rw [hk1.1, HWS.out]
    have HZ1 := Lib.hid hz1
    clear HM hn hk1 hid hz1
    go_wp2_with fail
    refine HN1.out.mono ?_
    rintro e w2 ⟨hb2, hk2, hd2⟩
    have hf2 : FilBox w.heap.size w2 ⟨0, 0⟩ := (hk2.2 _ (by omega)).trans hf1
    have hb02 := hb01.trans hb2
    have ko2 := Lib.hid (ko1.out.trans hk2.old)
    clear c0 c1 f0 f1
    obtain ⟨c0, c1, f0, f1⟩ := hf2.cells
    simp only at c0 c1
    cases hn2 : nextM l1 with
    | none =>
      rw [hn2] at hd2 HM1
      obtain rfl := hd2
      obtain rfl : R = (⟨0, 0⟩, [], 4) := HM1.out
      clear HM1 hn2 hk2
      go_wp2_with fail
      have k1 := FilBox.zero hf2
      obtain ⟨k0, _, _, _⟩ := (FilBox.set1 hf2 0).cells
      simp only at k0
      exact bodyPost_ret (v := .tuple #[.agg #[.int .i64 0, .int .u32 0], .int .i64 4]) (by simp [results, Tryd.results40, go_sem, k0, k1]) rfl ⟨rfl, HSET.out w2 _ _ hb02, HSK.out w2 _ _ ko2.out⟩
    | some r2 =>
      obtain ⟨n, l2⟩ := r2
      rw [hn2] at hd2 HM1
      obtain ⟨rfl, hR2⟩ := hd2
      obtain ⟨hnb, hl2, _⟩ := next_some hn2
      have HTK := Lib.hid (htake_any bo n l2 w2 hR2 (by omega) hnb)
      have HM2 : Hid (R = if l2.length < n then (⟨0, 0⟩, [], 4) else if 2147483648 ≤ id then (⟨0, 0⟩, [], 5) else match readL (id : Int) (l2.take n) with
        | none => (⟨0, 0⟩, [], 5)
        | some f => (f, l2.drop n, 0)) := Lib.hid HM1.out
      have hnI : (n : Int) < 9223372036854775808 := by omega
      have HZ2 : Hid (w2.heap.size = w.heap.size + 1) := Lib.hid (by rw [hk2.1, HZ1.out])
      clear HM1 hn2 hk2 hnb
      go_wp2_with fail
      refine HTK.out.mono ?_
      rintro e w3 ⟨hb3, hk3, hd3⟩
      have hf3 : FilBox w.heap.size w3 ⟨0, 0⟩ := (hk3.2 _ (by omega)).trans hf2
      have hb03 := hb02.trans hb3
      have ko3 := Lib.hid (ko2.out.trans hk3.old)
      clear c0 c1 f0 f1
      obtain ⟨c0, c1, f0, f1⟩ := hf3.cells
      simp only at c0 c1
      rcases hd3 with ⟨hlt3, rfl⟩ | ⟨hle3, A3, c3, rfl, hB3, hA3, hR3⟩
      · obtain rfl : R = (⟨0, 0⟩, [], 4) := by rw [HM2.out, if_pos hlt3]
        clear HM2 hlt3 hk3
        go_wp2_with fail
        have k1 := FilBox.zero hf3
        obtain ⟨k0, _, _, _⟩ := (FilBox.set1 hf3 0).cells
        simp only at k0
        exact bodyPost_ret (v := .tuple #[.agg #[.int .i64 0, .int .u32 0], .int .i64 4]) (by simp [results, Tryd.results40, go_sem, k0, k1]) rfl ⟨rfl, HSET.out w3 _ _ hb03, HSK.out w3 _ _ ko3.out⟩
      · by_cases hbig : 2147483648 ≤ id
        · obtain rfl : R = (⟨0, 0⟩, [], 5) := by rw [HM2.out, if_neg (by omega), if_pos hbig]
          have hbi : (2147483648 : Int) ≤ (id : Int) := by omega
          clear HM2 hbig hk3
          go_wp2_with fail
          have k1 := FilBox.zero hf3
          obtain ⟨k0, _, _, _⟩ := (FilBox.set1 hf3 0).cells
          simp only at k0
          exact bodyPost_ret (v := .tuple #[.agg #[.int .i64 0, .int .u32 0], .int .i64 5]) (by simp [results, Tryd.results40, go_sem, k0, k1]) rfl ⟨rfl, HSET.out w3 _ _ hb03, HSK.out w3 _ _ ko3.out⟩
        · have hbi : decide ((2147483648 : Int) ≤ (id : Int)) = false := by simp; omega
          have HM3 : Hid (R = match readL (id : Int) (l2.take n) with
            | none => (⟨0, 0⟩, [], 5)
            | some f => (f, l2.drop n, 0)) := Lib.hid (by rw [HM2.out, if_neg (by omega), if_neg hbig])
          have hln : (l2.take n).length = n := by rw [List.length_take]; omega
          have HRD := cread_any (id : Int) A3 (l2.take n) c3 w3 hB3
          rw [hln] at HRD
          clear hln hA3 hB3 hle3 hl1 hl2
          have hz3 : w.heap.size < w3.heap.size := by rw [hk3.1, HZ2.out]; omega
          have HR3 := Lib.hid hR3
          have HZ3 := Lib.hid hz3
          clear hz3 hR3
          cases hrd : readL (id : Int) (l2.take n) with
          | none =>
            rw [hrd] at HRD HM3
            obtain rfl : R = (⟨0, 0⟩, [], 5) := HM3.out
            have HRD' := Lib.hid (show Calls Tryd.prog 58 #[.int .i64 (id : Int), .slice A3 n c3] w3 (FilT w3 0 0 (.int .i64 5)) from HRD)
            clear HM2 HM3 hbig hk3 HRD hrd
            go_wp2_with fail
            refine HRD'.out.mono ?_
            rintro e w4 ⟨rfl, hb4⟩
            have hf4 : FilBox w.heap.size w4 ⟨0, 0⟩ := (hb4.block _ HZ3.out).trans hf3
            have hb04 := hb03.trans (hb4.mono (by have := HZ3.out; omega))
            have ko4 := Lib.hid (ko3.out.trans (Below.old hb4))
            clear c0 c1 f0 f1
            obtain ⟨c0, c1, f0, f1⟩ := hf4.cells
            simp only at c0 c1
            go_wp2_with fail
            have k1 := FilBox.zero hf4
            obtain ⟨k0, _, _, _⟩ := (FilBox.set1 hf4 0).cells
            simp only at k0
            exact bodyPost_ret (v := .tuple #[.agg #[.int .i64 0, .int .u32 0], .int .i64 5]) (by simp [results, Tryd.results40, go_sem, k0, k1]) rfl ⟨rfl, HSET.out w4 _ _ hb04, HSK.out w4 _ _ ko4.out⟩
          | some f =>
            obtain ⟨fid, fn⟩ := f
            rw [hrd] at HRD HM3
            obtain rfl : R = (⟨fid, fn⟩, l2.drop n, 0) := HM3.out
            have HRD' := Lib.hid (show Calls Tryd.prog 58 #[.int .i64 (id : Int), .slice A3 n c3] w3 (FilT w3 fid fn (.int .i64 0)) from HRD)
            clear HM2 HM3 hbig hk3 HRD hrd
            go_wp2_with fail
            refine HRD'.out.mono ?_
            rintro e w4 ⟨rfl, hb4⟩
            have hf4 : FilBox w.heap.size w4 ⟨0, 0⟩ := (hb4.block _ HZ3.out).trans hf3
            have hb04 := hb03.trans (hb4.mono (by have := HZ3.out; omega))
            have ko4 := Lib.hid (ko3.out.trans (Below.old hb4))
            have hR4 : Rest bo w4 (l2.drop n) := HR3.out.keep (hb4.mono (by have := HZ3.out; omega))
            clear c0 c1 f0 f1
            obtain ⟨c0, c1, f0, f1⟩ := hf4.cells
            simp only at c0 c1
            go_wp2_with fail
            obtain ⟨_, k1, _, _⟩ := (FilBox.set2 hf4 fid fn).cells
            obtain ⟨k0, _, _, _⟩ := (FilBox.set1 hf4 fid).cells
            simp only at k0 k1
            have hR5 : Rest bo ((w4.setCell ⟨w.heap.size, 0, none⟩ (.int .i64 fid)).setCell ⟨w.heap.size, 1, none⟩ (.int .u32 (fn : Nat))) (l2.drop n) :=
              hR4.keep (Below.setCell (p := ⟨w.heap.size, 1, none⟩) (Below.setCell (p := ⟨w.heap.size, 0, none⟩) (Below.refl _ _) (by show bo + 1 ≤ w.heap.size; omega) _) (by show bo + 1 ≤ w.heap.size; omega) _)
            exact bodyPost_ret (v := .tuple #[.agg #[.int .i64 fid, .int .u32 (fn : Nat)], .int .i64 0]) (by simp [results, Tryd.results40, go_sem, k0, k1]) rfl ⟨rfl, HSET.out w4 _ _ hb04, HSK.out w4 _ _ ko4.out, by first | exact hR5 | exact fun _ => hR5⟩
end Go.Proofs.YtaggkcgeddoogaaDoor
