/- The map of the branch filters, as memory. -/
import Derived.Test.YtflklbnebljnmaaBase
import Derived.MapKept
namespace Go.Proofs.Ytflklbnebljnmaa
open Go.RowKit

theorem run_ins (w : World) (r clock : Nat) (k : Int) (es : Array MapEntry) (v : Value) (hb : w.heap[r]? = some (.map es clock)) (hf : Instr.findNow (.int .i64) (.int .i64 k) es.toList 0 = some none) :
    (Instr.mapUpdate 72 (.map (some r)) (.int .i64 k) v).run Try.prog w = .ok () { w with heap := w.heap.setIfInBounds r (.map (es.push { key := .int .i64 k, val := v, born := clock }) (clock + 1)) } := by
  have hc : (Instr.checkKey false 10000 3 (.int .i64 k)).run Try.prog w = .ok () w := MapKept.run_checkKey (k := .int .i64 k) Try.underlying3 (by simp [MapKept.IsKey]) false 9999
  simp [Instr.mapUpdate, run_underlying Try.underlying72, MapKept.run_getObj_map hb, hc, MapKept.run_findKey Try.underlying3 hf, MapKept.run_setObj_map _ hb, Result.andThen]

/-- The four filters. -/
def ents : Array MapEntry := #[⟨.int .i64 5, .func (.func 50) #[] #[], 0⟩, ⟨.int .i64 7, .func (.func 52) #[] #[], 1⟩, ⟨.int .i64 9, .func (.func 53) #[] #[], 2⟩, ⟨.int .i64 10, .func (.func 55) #[] #[], 3⟩]
def FiltersDone (w : World) (e : Ending) (w' : World) : Prop := ∃ r, e = .returned (.map (some r)) ∧ w'.heap[r]? = some (.map ents 4) ∧ w.heap.size ≤ r ∧ Below w.heap.size w w'

theorem ins_step {w W : World} {r c : Nat} {es : Array MapEntry} (k : Int) (v : Value) (hb : W.heap[r]? = some (.map es c)) (hf : Instr.findNow (.int .i64) (.int .i64 k) es.toList 0 = some none) (hB : Below w.heap.size w W) (hr : w.heap.size ≤ r) :
    ∃ W', (Instr.mapUpdate 72 (.map (some r)) (.int .i64 k) v).run Try.prog W = .ok () W' ∧ W'.heap[r]? = some (.map (es.push { key := .int .i64 k, val := v, born := c }) (c + 1)) ∧ Below w.heap.size w W' := by
  refine ⟨_, run_ins W r c k es v hb hf, (MapKept.heap_set hb).1, ?_⟩
  exact ⟨hB.os, hB.tape, hB.output, by simpa using hB.size, fun i hi => ((MapKept.heap_set hb).2 i (by omega)).trans (hB.block i hi)⟩

set_option maxRecDepth 100000 in
set_option maxHeartbeats 400000 in
theorem filters_any (w : World) : Calls Try.prog 47 #[] w (FiltersDone w) := by
  have hmm := run_makeMap (P := Try.prog) 72 w
  have b0 := (MapKept.heap_alloc w (.map #[] 0)).1
  have B0 : Below w.heap.size w (w.alloc (.map #[] 0)) := (Below.refl _ _).alloc (Nat.le_refl _) _
  generalize w.alloc (.map #[] 0) = W0 at *
  obtain ⟨W1, i1, b1, B1⟩ := ins_step 5 (.func (.func 50) #[] #[]) b0 rfl B0 (Nat.le_refl _)
  obtain ⟨W2, i2, b2, B2⟩ := ins_step 7 (.func (.func 52) #[] #[]) b1 rfl B1 (Nat.le_refl _)
  obtain ⟨W3, i3, b3, B3⟩ := ins_step 9 (.func (.func 53) #[] #[]) b2 rfl B2 (Nat.le_refl _)
  obtain ⟨W4, i4, b4, B4⟩ := ins_step 10 (.func (.func 55) #[] #[]) b3 rfl B3 (Nat.le_refl _)
  have HB4 := Lib.hid b4
  clear b0 b1 b2 b3 b4
  go_enter Try.func47, Try.ntmps47
  go_wp2_with fail
  go_ret
  exact ⟨w.heap.size, rfl, HB4.out, Nat.le_refl _, B4⟩

/-- What is looked up. -/
theorem run_look (w : World) (r : Nat) (id : Int) (hb : w.heap[r]? = some (.map ents 4)) (a : Option (Nat × Value)) (hf : Instr.findNow (.int .i64) (.int .i64 id) ents.toList 0 = some a) (z : Value) (hz : (zeroValue 70).run Try.prog w = .ok z w) :
    (Instr.lookup 72 (.map (some r)) (.int .i64 id) true).run Try.prog w = .ok (.tuple #[(a.map (·.2)).getD z, .bool a.isSome]) w := by
  have hc : ∀ e, (Instr.checkKey e 10000 3 (.int .i64 id)).run Try.prog w = .ok () w := fun e => MapKept.run_checkKey (k := .int .i64 id) Try.underlying3 (by simp [MapKept.IsKey]) e 9999
  cases a <;> simp [Instr.lookup, run_underlying Try.underlying72, MapKept.run_getObj_map hb, hc, MapKept.run_findKey Try.underlying3 hf, hz, Result.andThen]
theorem look_5 : Instr.findNow (.int .i64) (.int .i64 5) ents.toList 0 = some (some (0, .func (.func 50) #[] #[])) := rfl
theorem look_7 : Instr.findNow (.int .i64) (.int .i64 7) ents.toList 0 = some (some (1, .func (.func 52) #[] #[])) := rfl
theorem look_9 : Instr.findNow (.int .i64) (.int .i64 9) ents.toList 0 = some (some (2, .func (.func 53) #[] #[])) := rfl
theorem look_10 : Instr.findNow (.int .i64) (.int .i64 10) ents.toList 0 = some (some (3, .func (.func 55) #[] #[])) := rfl
end Go.Proofs.Ytflklbnebljnmaa
