/- The checks: flags.sums, Fine, Sum, Size, and the reference's Size and Sum. -/
import Derived.Test.YtibkhajhmncgkaaDoorFlLow
import Derived.Test.YtibkhajhmncgkaaDoorShaRSum
import Derived.Test.YtibkhajhmncgkaaDoorShaDig
import Derived.Test.YtibkhajhmncgkaaDoorCrcSum
import Derived.Test.YtibkhajhmncgkaaDoorC64Sum
import Derived.MapKept
namespace Go.Proofs.YtibkhajhmncgkaaDoor
open Go.RowKit

theorem fl_ins (w : World) (r clock : Nat) (k : Int) (es : Array MapEntry) (v : Value) (hb : w.heap[r]? = some (.map es clock)) (hf : Instr.findNow (.int .i64) (.int .i64 k) es.toList 0 = some none) :
    (Instr.mapUpdate 51 (.map (some r)) (.int .i64 k) v).run Tryd.prog w = .ok () { w with heap := w.heap.setIfInBounds r (.map (es.push { key := .int .i64 k, val := v, born := clock }) (clock + 1)) } := by
  have hc : (Instr.checkKey false 10000 3 (.int .i64 k)).run Tryd.prog w = .ok () w := MapKept.run_checkKey (k := .int .i64 k) Tryd.underlying3 (by simp [MapKept.IsKey]) false 9999
  simp [Instr.mapUpdate, run_underlying Tryd.underlying51, MapKept.run_getObj_map hb, hc, MapKept.run_findKey Tryd.underlying3 hf, MapKept.run_setObj_map _ hb, Result.andThen]
def flEnts : Array MapEntry := #[⟨.int .i64 0, .func (.func 34) #[] #[], 0⟩, ⟨.int .i64 1, .func (.func 35) #[] #[], 1⟩, ⟨.int .i64 4, .func (.func 37) #[] #[], 2⟩, ⟨.int .i64 10, .func (.func 39) #[] #[], 3⟩]
theorem fl_step {w W : World} {r c : Nat} {es : Array MapEntry} (k : Int) (v : Value) (hb : W.heap[r]? = some (.map es c)) (hf : Instr.findNow (.int .i64) (.int .i64 k) es.toList 0 = some none) (hB : Below w.heap.size w W) (hr : w.heap.size ≤ r) :
    ∃ W', (Instr.mapUpdate 51 (.map (some r)) (.int .i64 k) v).run Tryd.prog W = .ok () W' ∧ W'.heap[r]? = some (.map (es.push { key := .int .i64 k, val := v, born := c }) (c + 1)) ∧ Below w.heap.size w W' := by
  refine ⟨_, fl_ins W r c k es v hb hf, (MapKept.heap_set hb).1, ?_⟩
  exact ⟨hB.os, hB.tape, hB.output, by simpa using hB.size, fun i hi => ((MapKept.heap_set hb).2 i (by omega)).trans (hB.block i hi)⟩
def SumsDone (w : World) (e : Ending) (w' : World) : Prop := ∃ r, e = .returned (.map (some r)) ∧ w'.heap[r]? = some (.map flEnts 4) ∧ w.heap.size ≤ r ∧ Below w.heap.size w w'
set_option maxRecDepth 100000 in
set_option maxHeartbeats 400000 in
theorem sums_any (w : World) : Calls Tryd.prog 24 #[] w (SumsDone w) := by
  have hmm := run_makeMap (P := Tryd.prog) 51 w
  have b0 := (MapKept.heap_alloc w (.map #[] 0)).1
  have B0 : Below w.heap.size w (w.alloc (.map #[] 0)) := (Below.refl _ _).alloc (Nat.le_refl _) _
  generalize w.alloc (.map #[] 0) = W0 at *
  obtain ⟨W1, i1, b1, B1⟩ := fl_step 0 (.func (.func 34) #[] #[]) b0 rfl B0 (Nat.le_refl _)
  obtain ⟨W2, i2, b2, B2⟩ := fl_step 1 (.func (.func 35) #[] #[]) b1 rfl B1 (Nat.le_refl _)
  obtain ⟨W3, i3, b3, B3⟩ := fl_step 4 (.func (.func 37) #[] #[]) b2 rfl B2 (Nat.le_refl _)
  obtain ⟨W4, i4, b4, B4⟩ := fl_step 10 (.func (.func 39) #[] #[]) b3 rfl B3 (Nat.le_refl _)
  have HB4 := Lib.hid b4
  clear b0 b1 b2 b3 b4
  go_enter Tryd.func24, Tryd.ntmps24
  go_wp2_with fail
  go_ret
  exact ⟨w.heap.size, rfl, HB4.out, Nat.le_refl _, B4⟩
theorem fl_look (w : World) (r : Nat) (id : Int) (hb : w.heap[r]? = some (.map flEnts 4)) (a : Option (Nat × Value)) (hf : Instr.findNow (.int .i64) (.int .i64 id) flEnts.toList 0 = some a) :
    (Instr.lookup 51 (.map (some r)) (.int .i64 id) true).run Tryd.prog w = .ok (.tuple #[(a.map (·.2)).getD .nilFunc, .bool a.isSome]) w := by
  have hz : (zeroValue 49).run Tryd.prog w = .ok .nilFunc w := by kernel_rfl
  have hc : ∀ e, (Instr.checkKey e 10000 3 (.int .i64 id)).run Tryd.prog w = .ok () w := fun e => MapKept.run_checkKey (k := .int .i64 id) Tryd.underlying3 (by simp [MapKept.IsKey]) e 9999
  cases a <;> simp [Instr.lookup, run_underlying Tryd.underlying51, MapKept.run_getObj_map hb, hc, MapKept.run_findKey Tryd.underlying3 hf, hz, Result.andThen]
/-- Is it a check? -/
def fineB (c : Int) : Bool := c == 0 || c == 1 || c == 4 || c == 10
theorem fl_find_0 : Instr.findNow (.int .i64) (.int .i64 0) flEnts.toList 0 = some (some (0, .func (.func 34) #[] #[])) := rfl
theorem fl_find_1 : Instr.findNow (.int .i64) (.int .i64 1) flEnts.toList 0 = some (some (1, .func (.func 35) #[] #[])) := rfl
theorem fl_find_4 : Instr.findNow (.int .i64) (.int .i64 4) flEnts.toList 0 = some (some (2, .func (.func 37) #[] #[])) := rfl
theorem fl_find_10 : Instr.findNow (.int .i64) (.int .i64 10) flEnts.toList 0 = some (some (3, .func (.func 39) #[] #[])) := rfl
theorem sameNow_ne (c k : Int) (h : c ≠ k) : Instr.sameNow (.int .i64) (.int .i64 c) (.int .i64 k) = some false := by simp [Instr.sameNow, h]
theorem fl_find_no (c : Int) (h : fineB c = false) : Instr.findNow (.int .i64) (.int .i64 c) flEnts.toList 0 = some none := by
  simp [fineB] at h
  obtain ⟨⟨⟨h0, h1⟩, h4⟩, h10⟩ := h
  simp [flEnts, Instr.findNow, sameNow_ne _ _ h0, sameNow_ne _ _ h1, sameNow_ne _ _ h4, sameNow_ne _ _ h10]
/-- A check's bytes. -/
def sumB (c : Int) (l : List UInt8) : List UInt8 := if c = 1 then lowB (C3.crcOf 0#32 l).toNat 4 else if c = 4 then lowB (C64.crcOf 0#64 l).toNat 8 else if c = 10 then (St.new.puts l).digest else []
def sizeOfC (c : Int) : Nat := if c = 1 then 4 else if c = 4 then 8 else if c = 10 then 32 else 0
theorem sumB_length (c : Int) (l : List UInt8) : (sumB c l).length = sizeOfC c := by
  unfold sumB sizeOfC
  split
  · exact lowB_length _ _
  · split
    · exact lowB_length _ _
    · split
      · exact digest_length _
      · rfl
end Go.Proofs.YtibkhajhmncgkaaDoor
