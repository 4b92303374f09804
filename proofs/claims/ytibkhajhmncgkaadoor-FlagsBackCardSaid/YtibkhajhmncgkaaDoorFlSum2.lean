/- The walks over flags.Fine, Sum, Size, and the reference's Size and Sum. -/
import Derived.Test.YtibkhajhmncgkaaDoorFlSum
namespace Go.Proofs.YtibkhajhmncgkaaDoor
open Go.RowKit

theorem cutAll (g : Nat) (w : World) : (Instr.sliceAt 58 (.pointer (some ⟨g, 0, none⟩)) none none none).run Tryd.prog w = .ok (.slice (some ⟨g, 0, none⟩) 32 32) w := by
  have ha : Tryd.prog.arrayLen 58 = 32 := by kernel_rfl
  have hu : Tryd.prog.underlying 58 = some (.array (Tryd.prog.arrayLen 58) (Tryd.prog.elem 58)) := by kernel_rfl
  have hs : (sizeOf (Tryd.prog.elem 58)).run Tryd.prog w = .ok 1 w := by kernel_rfl
  rw [run_sliceAt_array_all w 58 ⟨g, 0, none⟩ hu, hs, ha]
  simp [Result.andThen, slicedAt]
  unfold Addr.add; split <;> simp_all
theorem below_drew (w : World) : Below w.heap.size w w.drew := (Below.refl _ _).drew

set_option maxRecDepth 100000 in
set_option maxHeartbeats 400000 in
theorem f1_any (v : Value) (w : World) : Calls Tryd.prog 34 #[v] w (BytesDone w []) := by
  go_enter Tryd.func34, Tryd.ntmps34
  go_wp2_with fail
  go_ret
  exact ⟨none, 0, rfl, by simp, by omega, .nil, Below.refl _ _⟩
set_option maxRecDepth 100000 in
set_option maxHeartbeats 400000 in
theorem f2_any (A : Option Addr) (l : List UInt8) (c : Nat) (w : World) (hB : Bytes w A l) (hc : l.length ≤ c) (hm : c ≤ 9223372036854775807) : Calls Tryd.prog 35 #[.slice A l.length c] w (BytesDone w (lowB (C3.crcOf 0#32 l).toNat 4)) := by
  have HS := Lib.hid (C3.sum_any A l c w hB hc hm)
  have hx := (C3.crcOf 0#32 l).isLt
  generalize (C3.crcOf 0#32 l).toNat = x at *
  have HL := Lib.hid (fun w => leastFirst_any x 4 (by omega) (by omega) w)
  have hx0 : (0 : Int) ≤ (x : Int) := by omega
  have hx1 : (x : Int) < 4294967296 := by omega
  go_enter Tryd.func35, Tryd.ntmps35
  go_wp2_with fail
  refine HS.out.mono ?_
  rintro e w1 ⟨rfl, hb1⟩
  go_wp2_with fail
  refine (HL.out w1).mono ?_
  rintro e w2 hd
  obtain ⟨A2, c2, rfl, hc2, hm2, hB2, hb2⟩ := hd.bytes
  go_wp2_with fail
  go_ret
  exact ⟨A2, c2, rfl, hc2, hm2, hB2, hb1.trans (hb2.mono hb1.size)⟩
set_option maxRecDepth 100000 in
set_option maxHeartbeats 400000 in
theorem f3_any (A : Option Addr) (l : List UInt8) (c : Nat) (w : World) (hB : Bytes w A l) (hc : l.length ≤ c) (hm : c ≤ 9223372036854775807) : Calls Tryd.prog 37 #[.slice A l.length c] w (BytesDone w (lowB (C64.crcOf 0#64 l).toNat 8)) := by
  have HS := Lib.hid (C64.sum_any A l c w hB hc hm)
  have hx := (C64.crcOf 0#64 l).isLt
  generalize (C64.crcOf 0#64 l).toNat = x at *
  have HL := Lib.hid (fun w => leastFirst_any x 8 (by omega) (by omega) w)
  go_enter Tryd.func37, Tryd.ntmps37
  go_wp2_with fail
  refine HS.out.mono ?_
  rintro e w1 ⟨rfl, hb1⟩
  go_wp2_with fail
  refine (HL.out w1).mono ?_
  rintro e w2 hd
  obtain ⟨A2, c2, rfl, hc2, hm2, hB2, hb2⟩ := hd.bytes
  go_wp2_with fail
  go_ret
  exact ⟨A2, c2, rfl, hc2, hm2, hB2, hb1.trans (hb2.mono hb1.size)⟩
set_option maxRecDepth 100000 in
set_option maxHeartbeats 400000 in
theorem f4_any (A : Option Addr) (l : List UInt8) (c : Nat) (w : World) (hT : Tabs w) (hB : Bytes w A l) (hc : l.length ≤ c) (hm : c ≤ 9223372036854775807) (hn : l.length ≤ 100000000) : Calls Tryd.prog 39 #[.slice A l.length c] w (BytesDone w (St.new.puts l).digest) := by
  have HS := Lib.hid (sumOf_any A l c w hT hB hc hm hn)
  have HDL0 : (St.new.puts l).digest.length = 32 := digest_length _
  have hz32 := (zero_of_info info32).1
  generalize (St.new.puts l).digest = D at *
  go_enter Tryd.func39, Tryd.ntmps39
  go_wp2_with fail
  refine HS.out.mono ?_
  rintro e w2 ⟨rfl, hb2⟩
  have hlast := heap_alloc_last w2 (.cells zero32 58)
  have hset := World.setRow_alloc_new w2 zero32 (D.map B8).toArray 58
  have hsz : ((Tryd.prog.info? 58).map (·.size)) = some (D.map B8).toArray.size := by rw [zsize32]; simp [HDL0]
  have hzz : zero32.size = (D.map B8).toArray.size := by simp [HDL0, zero32]
  have hone : (D.map B8).toArray.all (·.oneCell') = true := all_oneCell_toArray (b8_one _)
  have hB3 : Bytes (w2.alloc (.cells (D.map B8).toArray 58)) (some ⟨w2.heap.size, 0, none⟩) D := .inr ⟨_, _, rfl, by simp, fun k hk => by
    rw [cell_of_row _ _ _ _ _ _ (heap_alloc_last _ _), Nat.zero_add, List.getElem?_toArray, List.getElem?_map, List.getElem?_eq_getElem hk]; rfl⟩
  have hb3 := hb2.trans ((below_one w2 (.cells (D.map B8).toArray 58)).mono hb2.size)
  have HB3 := Lib.hid hB3
  have HSET := Lib.hid hset
  have HDL := Lib.hid HDL0
  have k := fun w => cutAll w2.heap.size w
  generalize (D.map B8).toArray = DV at *
  clear hset hB3 HDL0 hb2
  go_wp2_with (refine wpList_store_row rfl 58 _ _ rfl w2.heap.size DV rfl rfl 58 zero32 hlast hsz hzz hone ?_; rw [HSET.out])
  go_ret
  exact ⟨some ⟨w2.heap.size, 0, none⟩, 32, by rw [HDL.out]; rfl, by rw [HDL.out]; omega, by omega, HB3.out, hb3⟩

theorem fine_cases (c : Int) : c = 0 ∨ c = 1 ∨ c = 4 ∨ c = 10 ∨ fineB c = false := by
  unfold fineB
  by_cases h0 : c = 0
  · exact .inl h0
  by_cases h1 : c = 1
  · exact .inr (.inl h1)
  by_cases h4 : c = 4
  · exact .inr (.inr (.inl h4))
  by_cases h10 : c = 10
  · exact .inr (.inr (.inr (.inl h10)))
  · simp [h0, h1, h4, h10]

set_option maxRecDepth 100000 in
set_option maxHeartbeats 400000 in
theorem fine_any (c : Int) (w : World) : Calls Tryd.prog 10 #[.int .i64 c] w fun e w' => e = .returned (.bool (fineB c)) ∧ Below w.heap.size w w' := by
  have key : ∀ (a : Option (Nat × Value)) (v : Value) (b : Bool), Instr.findNow (.int .i64) (.int .i64 c) flEnts.toList 0 = some a → (a.map (·.2)).getD .nilFunc = v → a.isSome = b → fineB c = b →
      Calls Tryd.prog 10 #[.int .i64 c] w fun e w' => e = .returned (.bool b) ∧ Below w.heap.size w w' := by
    intro a v b hf hv hb _
    go_enter Tryd.func10, Tryd.ntmps10
    go_wp2_with fail
    refine (sums_any w).mono ?_
    rintro e w1 ⟨r, rfl, hm, hr, hb1⟩
    have k := fl_look w1 r c hm a hf
    rw [hv, hb] at k
    clear hf hv hb hm
    go_wp2_with fail
    go_ret
    exact ⟨rfl, hb1⟩
  rcases fine_cases c with rfl | rfl | rfl | rfl | h
  · exact key _ _ _ fl_find_0 rfl rfl rfl
  · exact key _ _ _ fl_find_1 rfl rfl rfl
  · exact key _ _ _ fl_find_4 rfl rfl rfl
  · exact key _ _ _ fl_find_10 rfl rfl rfl
  · rw [h]; exact key _ _ _ (fl_find_no c h) rfl rfl h

set_option maxRecDepth 100000 in
set_option maxHeartbeats 1000000 in
theorem chk_any (c : Int) (A : Option Addr) (l : List UInt8) (cap : Nat) (w : World) (hT : Tabs w) (hB : Bytes w A l) (hc : l.length ≤ cap) (hm : cap ≤ 9223372036854775807) (hn : l.length ≤ 100000000) :
    Calls Tryd.prog 12 #[.int .i64 c, .slice A l.length cap] w (BytesDone w (sumB c l)) := by
  rcases fine_cases c with rfl | rfl | rfl | rfl | h
  · have HT := Lib.hid hT
    clear hT
    show Calls _ _ _ _ (BytesDone w [])
    go_enter Tryd.func12, Tryd.ntmps12
    go_wp2_with fail
    refine (sums_any w).mono ?_
    rintro e w1 ⟨r, rfl, hm1, hr, hb1⟩
    have k : (Instr.lookup 51 (.map (some r)) (.int .i64 0) true).run Tryd.prog w1 = .ok (.tuple #[.func (.func 34) #[] #[], .bool true]) w1 := fl_look w1 r 0 hm1 _ fl_find_0
    have hB1 := hB.below hb1
    have hT1 := HT.out.below hb1
    have HC1 := Lib.hid (f1_any (.slice A l.length cap) w1)
    clear hm1 hT1 hB1 hB
    go_wp2_with fail
    refine HC1.out.mono ?_
    rintro e w2 ⟨A2, c2, rfl, hc2, hm2, hB2, hb2⟩
    go_wp2_with fail
    go_ret
    exact ⟨A2, c2, rfl, hc2, hm2, hB2, hb1.trans (hb2.mono hb1.size)⟩
  · have HT := Lib.hid hT
    clear hT
    show Calls _ _ _ _ (BytesDone w (lowB (C3.crcOf 0#32 l).toNat 4))
    go_enter Tryd.func12, Tryd.ntmps12
    go_wp2_with fail
    refine (sums_any w).mono ?_
    rintro e w1 ⟨r, rfl, hm1, hr, hb1⟩
    have k : (Instr.lookup 51 (.map (some r)) (.int .i64 1) true).run Tryd.prog w1 = .ok (.tuple #[.func (.func 35) #[] #[], .bool true]) w1 := fl_look w1 r 1 hm1 _ fl_find_1
    have hB1 := hB.below hb1
    have hT1 := HT.out.below hb1
    have HC1 := Lib.hid (f2_any A l cap w1 hB1 hc hm)
    clear hm1 hT1 hB1 hB
    go_wp2_with fail
    refine HC1.out.mono ?_
    rintro e w2 ⟨A2, c2, rfl, hc2, hm2, hB2, hb2⟩
    go_wp2_with fail
    go_ret
    exact ⟨A2, c2, rfl, hc2, hm2, hB2, hb1.trans (hb2.mono hb1.size)⟩
  · have HT := Lib.hid hT
    clear hT
    show Calls _ _ _ _ (BytesDone w (lowB (C64.crcOf 0#64 l).toNat 8))
    go_enter Tryd.func12, Tryd.ntmps12
    go_wp2_with fail
    refine (sums_any w).mono ?_
    rintro e w1 ⟨r, rfl, hm1, hr, hb1⟩
    have k : (Instr.lookup 51 (.map (some r)) (.int .i64 4) true).run Tryd.prog w1 = .ok (.tuple #[.func (.func 37) #[] #[], .bool true]) w1 := fl_look w1 r 4 hm1 _ fl_find_4
    have hB1 := hB.below hb1
    have hT1 := HT.out.below hb1
    have HC1 := Lib.hid (f3_any A l cap w1 hB1 hc hm)
    clear hm1 hT1 hB1 hB
    go_wp2_with fail
    refine HC1.out.mono ?_
    rintro e w2 ⟨A2, c2, rfl, hc2, hm2, hB2, hb2⟩
    go_wp2_with fail
    go_ret
    exact ⟨A2, c2, rfl, hc2, hm2, hB2, hb1.trans (hb2.mono hb1.size)⟩
  · have HT := Lib.hid hT
    clear hT
    show Calls _ _ _ _ (BytesDone w (St.new.puts l).digest)
    go_enter Tryd.func12, Tryd.ntmps12
    go_wp2_with fail
    refine (sums_any w).mono ?_
    rintro e w1 ⟨r, rfl, hm1, hr, hb1⟩
    have k : (Instr.lookup 51 (.map (some r)) (.int .i64 10) true).run Tryd.prog w1 = .ok (.tuple #[.func (.func 39) #[] #[], .bool true]) w1 := fl_look w1 r 10 hm1 _ fl_find_10
    have hB1 := hB.below hb1
    have hT1 := HT.out.below hb1
    have HC1 := Lib.hid (f4_any A l cap w1 hT1 hB1 hc hm hn)
    clear hm1 hT1 hB1 hB
    go_wp2_with fail
    refine HC1.out.mono ?_
    rintro e w2 ⟨A2, c2, rfl, hc2, hm2, hB2, hb2⟩
    go_wp2_with fail
    go_ret
    exact ⟨A2, c2, rfl, hc2, hm2, hB2, hb1.trans (hb2.mono hb1.size)⟩
  · have hs : sumB c l = [] := by
      simp [fineB] at h
      unfold sumB
      rw [if_neg (by omega), if_neg (by omega), if_neg (by omega)]
    rw [hs]
    have HF := Lib.hid (fl_find_no c h)
    go_enter Tryd.func12, Tryd.ntmps12
    go_wp2_with fail
    refine (sums_any w).mono ?_
    rintro e w1 ⟨r, rfl, hm1, hr, hb1⟩
    have k : (Instr.lookup 51 (.map (some r)) (.int .i64 c) true).run Tryd.prog w1 = .ok (.tuple #[.nilFunc, .bool false]) w1 := fl_look w1 r c hm1 _ HF.out
    clear hm1
    go_wp2_with fail
    go_ret
    exact ⟨none, 0, rfl, by simp, by omega, .nil, hb1⟩

set_option maxRecDepth 100000 in
set_option maxHeartbeats 400000 in
theorem size_any (c : Int) (w : World) (hT : Tabs w) : Calls Tryd.prog 11 #[.int .i64 c] w fun e w' => e = .returned (.int .i64 (sizeOfC c : Nat)) ∧ Below w.heap.size w w' := by
  have HS := Lib.hid (chk_any c none [] 0 w hT .nil (by simp) (by omega) (by simp))
  have HL := Lib.hid (sumB_length c [])
  generalize sumB c [] = L at *
  go_enter Tryd.func11, Tryd.ntmps11
  go_wp2_with fail
  refine HS.out.mono ?_
  rintro e w1 ⟨A, c1, rfl, hc1, hm1, hB1, hb1⟩
  go_wp2_with fail
  go_ret
  exact ⟨by rw [HL.out]; rfl, hb1⟩

/-- The reference's size; below 0: no check. -/
def rsizeC (c : Int) : Int := if fineB c then (sizeOfC c : Int) else -1
set_option maxRecDepth 100000 in
set_option maxHeartbeats 400000 in
theorem rsize_any (c : Int) (w : World) : Calls Tryd.prog 7 #[.int .i64 c] w fun e w' => e = .returned (.int .i64 (rsizeC c)) ∧ w = w' := by
  rcases fine_cases c with rfl | rfl | rfl | rfl | h
  · go_enter Tryd.func7, Tryd.ntmps7
    go_wp2_with fail
    go_ret
    exact ⟨rfl, rfl⟩
  · go_enter Tryd.func7, Tryd.ntmps7
    go_wp2_with fail
    go_ret
    exact ⟨rfl, rfl⟩
  · go_enter Tryd.func7, Tryd.ntmps7
    go_wp2_with fail
    go_ret
    exact ⟨rfl, rfl⟩
  · go_enter Tryd.func7, Tryd.ntmps7
    go_wp2_with fail
    go_ret
    exact ⟨rfl, rfl⟩
  · have hr : rsizeC c = -1 := by unfold rsizeC; rw [h]; rfl
    rw [hr]
    simp [fineB] at h
    obtain ⟨⟨⟨h0, h1⟩, h4⟩, h10⟩ := h
    have e0 : (c == 0) = false := by simpa using h0
    have e1 : (c == 1) = false := by simpa using h1
    have e4 : (c == 4) = false := by simpa using h4
    have e10 : (c == 10) = false := by simpa using h10
    clear h0 h1 h4 h10 hr
    go_enter Tryd.func7, Tryd.ntmps7
    go_wp2_with fail
    go_ret
    exact ⟨rfl, rfl⟩

set_option maxRecDepth 100000 in
set_option maxHeartbeats 400000 in
theorem rchk1_any (A : Option Addr) (l : List UInt8) (c : Nat) (w : World) (hB : Bytes w A l) (hm : l.length ≤ 100000000) : Calls Tryd.prog 13 #[.int .i64 1, .slice A l.length c] w (OwnDone w (sumB 1 l)) := by
  have HS := Lib.hid (C3.refSum_any A l c w hB (by omega))
  have hs : sumB 1 l = lowB (C3.crcOf 0#32 l).toNat 4 := rfl
  rw [hs]
  have hx := (C3.crcOf 0#32 l).isLt
  generalize (C3.crcOf 0#32 l).toNat = x at *
  have HL := Lib.hid (fun w => low_any 4 x w (by omega) (by omega))
  have hx0 : (0 : Int) ≤ (x : Int) := by omega
  have hx1 : (x : Int) < 4294967296 := by omega
  clear hs
  go_enter Tryd.func13, Tryd.ntmps13
  go_wp2_with fail
  refine HS.out.mono ?_
  rintro e w1 ⟨rfl, rfl⟩
  go_wp2_with fail
  refine (HL.out _).mono ?_
  rintro e w2 ⟨v, rfl, ho, hb⟩
  go_wp2_with fail
  go_ret
  exact ⟨v, rfl, ho, hb⟩
set_option maxRecDepth 100000 in
set_option maxHeartbeats 400000 in
theorem rchk_any (c : Int) (A : Option Addr) (l : List UInt8) (cap : Nat) (w : World) (hB : Bytes w A l) (hm : l.length ≤ 100000000) : Calls Tryd.prog 13 #[.int .i64 c, .slice A l.length cap] w (BytesDone w (sumB c l)) := by
  by_cases h1 : c = 1
  · subst h1
    exact (rchk1_any A l cap w hB hm).mono fun e w' h => h.bytes
  by_cases h4 : c = 4
  · subst h4
    have HS := Lib.hid (C64.refSum_any A l cap w hB (by omega))
    have hs : sumB 4 l = lowB (C64.crcOf 0#64 l).toNat 8 := rfl
    rw [hs]
    have hx := (C64.crcOf 0#64 l).isLt
    generalize (C64.crcOf 0#64 l).toNat = x at *
    have HL := Lib.hid (fun w => low_any 8 x w (by omega) (by omega))
    clear hs
    go_enter Tryd.func13, Tryd.ntmps13
    go_wp2_with fail
    refine HS.out.mono ?_
    rintro e w1 ⟨rfl, rfl⟩
    go_wp2_with fail
    refine (HL.out _).mono ?_
    rintro e w2 hd
    obtain ⟨A2, c2, rfl, hc2, hm2, hB2, hb2⟩ := hd.bytes
    go_wp2_with fail
    go_ret
    exact ⟨A2, c2, rfl, hc2, hm2, hB2, hb2⟩
  by_cases h10 : c = 10
  · subst h10
    have HS := Lib.hid (rsum_any A l cap w hB hm)
    have hs : sumB 10 l = (St.new.puts l).digest := rfl
    rw [hs]
    generalize (St.new.puts l).digest = D at *
    clear hs
    go_enter Tryd.func13, Tryd.ntmps13
    go_wp2_with fail
    refine HS.out.mono ?_
    rintro e w2 ⟨A2, c2, rfl, hc2, hm2, hB2, hb2⟩
    go_wp2_with fail
    go_ret
    exact ⟨A2, c2, rfl, hc2, hm2, hB2, hb2⟩
  · have hs : sumB c l = [] := by unfold sumB; rw [if_neg h1, if_neg h4, if_neg h10]
    rw [hs]
    have e1 : (c == 1) = false := by simpa using h1
    have e4 : (c == 4) = false := by simpa using h4
    have e10 : (c == 10) = false := by simpa using h10
    clear hs h1 h4 h10
    go_enter Tryd.func13, Tryd.ntmps13
    go_wp2_with fail
    go_ret
    exact ⟨none, 0, rfl, by simp, by omega, .nil, Below.refl _ _⟩
end Go.Proofs.YtibkhajhmncgkaaDoor
