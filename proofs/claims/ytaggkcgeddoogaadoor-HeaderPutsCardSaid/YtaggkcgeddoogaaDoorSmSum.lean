/- The check CRC-32 alone: flags.Sum and the reference's Sum at 1 (for seats that want no other check: in place of XFlSum, XFlSum2). -/
import Derived.Test.YtaggkcgeddoogaaDoorSmLow
import Derived.Test.YtaggkcgeddoogaaDoorCrcSum
import Derived.MapKept
namespace Go.Proofs.YtaggkcgeddoogaaDoor
open Go.RowKit

theorem fl_ins (w : World) (r clock : Nat) (k : Int) (es : Array MapEntry) (v : Value) (hb : w.heap[r]? = some (.map es clock)) (hf : Instr.findNow (.int .i64) (.int .i64 k) es.toList 0 = some none) :
    (Instr.mapUpdate 76 (.map (some r)) (.int .i64 k) v).run Tryd.prog w = .ok () { w with heap := w.heap.setIfInBounds r (.map (es.push { key := .int .i64 k, val := v, born := clock }) (clock + 1)) } := by
  have hc : (Instr.checkKey false 10000 3 (.int .i64 k)).run Tryd.prog w = .ok () w := MapKept.run_checkKey (k := .int .i64 k) Tryd.underlying3 (by simp [MapKept.IsKey]) false 9999
  simp [Instr.mapUpdate, run_underlying Tryd.underlying76, MapKept.run_getObj_map hb, hc, MapKept.run_findKey Tryd.underlying3 hf, MapKept.run_setObj_map _ hb, Result.andThen]
def flEnts : Array MapEntry := #[⟨.int .i64 0, .func (.func 49) #[] #[], 0⟩, ⟨.int .i64 1, .func (.func 50) #[] #[], 1⟩, ⟨.int .i64 4, .func (.func 53) #[] #[], 2⟩, ⟨.int .i64 10, .func (.func 55) #[] #[], 3⟩]
theorem fl_step {w W : World} {r c : Nat} {es : Array MapEntry} (k : Int) (v : Value) (hb : W.heap[r]? = some (.map es c)) (hf : Instr.findNow (.int .i64) (.int .i64 k) es.toList 0 = some none) (hB : Below w.heap.size w W) (hr : w.heap.size ≤ r) :
    ∃ W', (Instr.mapUpdate 76 (.map (some r)) (.int .i64 k) v).run Tryd.prog W = .ok () W' ∧ W'.heap[r]? = some (.map (es.push { key := .int .i64 k, val := v, born := c }) (c + 1)) ∧ Below w.heap.size w W' := by
  refine ⟨_, fl_ins W r c k es v hb hf, (MapKept.heap_set hb).1, ?_⟩
  exact ⟨hB.os, hB.tape, hB.output, by simpa using hB.size, fun i hi => ((MapKept.heap_set hb).2 i (by omega)).trans (hB.block i hi)⟩
def SumsDone (w : World) (e : Ending) (w' : World) : Prop := ∃ r, e = .returned (.map (some r)) ∧ w'.heap[r]? = some (.map flEnts 4) ∧ w.heap.size ≤ r ∧ Below w.heap.size w w'
set_option maxRecDepth 100000 in
set_option maxHeartbeats 400000 in
theorem sums_any (w : World) : Calls Tryd.prog 37 #[] w (SumsDone w) := by
  have hmm := run_makeMap (P := Tryd.prog) 76 w
  have b0 := (MapKept.heap_alloc w (.map #[] 0)).1
  have B0 : Below w.heap.size w (w.alloc (.map #[] 0)) := (Below.refl _ _).alloc (Nat.le_refl _) _
  generalize w.alloc (.map #[] 0) = W0 at *
  obtain ⟨W1, i1, b1, B1⟩ := fl_step 0 (.func (.func 49) #[] #[]) b0 rfl B0 (Nat.le_refl _)
  obtain ⟨W2, i2, b2, B2⟩ := fl_step 1 (.func (.func 50) #[] #[]) b1 rfl B1 (Nat.le_refl _)
  obtain ⟨W3, i3, b3, B3⟩ := fl_step 4 (.func (.func 53) #[] #[]) b2 rfl B2 (Nat.le_refl _)
  obtain ⟨W4, i4, b4, B4⟩ := fl_step 10 (.func (.func 55) #[] #[]) b3 rfl B3 (Nat.le_refl _)
  have HB4 := Lib.hid b4
  clear b0 b1 b2 b3 b4
  go_enter Tryd.func37, Tryd.ntmps37
  go_wp2_with fail
  go_ret
  exact ⟨w.heap.size, rfl, HB4.out, Nat.le_refl _, B4⟩
theorem fl_look (w : World) (r : Nat) (id : Int) (hb : w.heap[r]? = some (.map flEnts 4)) (a : Option (Nat × Value)) (hf : Instr.findNow (.int .i64) (.int .i64 id) flEnts.toList 0 = some a) :
    (Instr.lookup 76 (.map (some r)) (.int .i64 id) true).run Tryd.prog w = .ok (.tuple #[(a.map (·.2)).getD .nilFunc, .bool a.isSome]) w := by
  have hz : (zeroValue 74).run Tryd.prog w = .ok .nilFunc w := by kernel_rfl
  have hc : ∀ e, (Instr.checkKey e 10000 3 (.int .i64 id)).run Tryd.prog w = .ok () w := fun e => MapKept.run_checkKey (k := .int .i64 id) Tryd.underlying3 (by simp [MapKept.IsKey]) e 9999
  cases a <;> simp [Instr.lookup, run_underlying Tryd.underlying76, MapKept.run_getObj_map hb, hc, MapKept.run_findKey Tryd.underlying3 hf, hz, Result.andThen]
theorem fl_find_1 : Instr.findNow (.int .i64) (.int .i64 1) flEnts.toList 0 = some (some (1, .func (.func 50) #[] #[])) := rfl
/-- A CRC-32's bytes. -/
def sum1 (l : List UInt8) : List UInt8 := lowB (C3.crcOf 0#32 l).toNat 4
theorem sum1_length (l : List UInt8) : (sum1 l).length = 4 := lowB_length _ _
theorem below_drew (w : World) : Below w.heap.size w w.drew := (Below.refl _ _).drew

set_option maxRecDepth 100000 in
set_option maxHeartbeats 400000 in
theorem f2_any (A : Option Addr) (l : List UInt8) (c : Nat) (w : World) (hB : Bytes w A l) (hc : l.length ≤ c) (hm : c ≤ 9223372036854775807) : Calls Tryd.prog 50 #[.slice A l.length c] w (BytesDone w (lowB (C3.crcOf 0#32 l).toNat 4)) := by
  have HS := Lib.hid (C3.sum_any A l c w hB hc hm)
  have hx := (C3.crcOf 0#32 l).isLt
  generalize (C3.crcOf 0#32 l).toNat = x at *
  have HL := Lib.hid (fun w => leastFirst_any x 4 (by omega) (by omega) w)
  have hx0 : (0 : Int) ≤ (x : Int) := by omega
  have hx1 : (x : Int) < 4294967296 := by omega
  go_enter Tryd.func50, Tryd.ntmps50
  go_wp2_with fail
  refine HS.out.mono ?_
  rintro e w1 ⟨rfl, hb1⟩
  go_wp2_with fail
  refine (HL.out w1).mono ?_
  rintro e w2 hd
  obtain ⟨A2, c2, rfl, hc2, hm2, hB2, hb2⟩ := hd.bytes
  go_wp2_with fail
  go_ret
  exact ⟨A2, c2, rfl, hc2, hm2, hB2, hb1.trans (hb2.mono hb1.size)⟩

set_option maxRecDepth 100000 in
set_option maxHeartbeats 1000000 in
theorem chk1_any (A : Option Addr) (l : List UInt8) (cap : Nat) (w : World) (hB : Bytes w A l) (hc : l.length ≤ cap) (hm : cap ≤ 9223372036854775807) :
    Calls Tryd.prog 18 #[.int .i64 1, .slice A l.length cap] w (BytesDone w (sum1 l)) := by
  show Calls _ _ _ _ (BytesDone w (lowB (C3.crcOf 0#32 l).toNat 4))
  go_enter Tryd.func18, Tryd.ntmps18
  go_wp2_with fail
  refine (sums_any w).mono ?_
  rintro e w1 ⟨r, rfl, hm1, hr, hb1⟩
  have k : (Instr.lookup 76 (.map (some r)) (.int .i64 1) true).run Tryd.prog w1 = .ok (.tuple #[.func (.func 50) #[] #[], .bool true]) w1 := fl_look w1 r 1 hm1 _ fl_find_1
  have hB1 := hB.below hb1
  have HC1 := Lib.hid (f2_any A l cap w1 hB1 hc hm)
  clear hm1 hB1 hB
  go_wp2_with fail
  refine HC1.out.mono ?_
  rintro e w2 ⟨A2, c2, rfl, hc2, hm2, hB2, hb2⟩
  go_wp2_with fail
  go_ret
  exact ⟨A2, c2, rfl, hc2, hm2, hB2, hb1.trans (hb2.mono hb1.size)⟩

set_option maxRecDepth 100000 in
set_option maxHeartbeats 400000 in
theorem rchk1_any (A : Option Addr) (l : List UInt8) (c : Nat) (w : World) (hB : Bytes w A l) (hm : l.length ≤ 100000000) : Calls Tryd.prog 30 #[.int .i64 1, .slice A l.length c] w (OwnDone w (sum1 l)) := by
  have HS := Lib.hid (C3.refSum_any A l c w hB (by omega))
  have hs : sum1 l = lowB (C3.crcOf 0#32 l).toNat 4 := rfl
  rw [hs]
  have hx := (C3.crcOf 0#32 l).isLt
  generalize (C3.crcOf 0#32 l).toNat = x at *
  have HL := Lib.hid (fun w => low_any 4 x w (by omega) (by omega))
  have hx0 : (0 : Int) ≤ (x : Int) := by omega
  have hx1 : (x : Int) < 4294967296 := by omega
  clear hs
  go_enter Tryd.func30, Tryd.ntmps30
  go_wp2_with fail
  refine HS.out.mono ?_
  rintro e w1 ⟨rfl, rfl⟩
  go_wp2_with fail
  refine (HL.out _).mono ?_
  rintro e w2 ⟨v, rfl, ho, hb⟩
  go_wp2_with fail
  go_ret
  exact ⟨v, rfl, ho, hb⟩
end Go.Proofs.YtaggkcgeddoogaaDoor
