/- A law's statement out of its contract, where two tables of the program's text are listed: what they hold; a slice of byte slices is opened. -/
import Derived.Test.YtibkhajhmncgkaaDoorLift
import Derived.Test.YtibkhajhmncgkaaDoorShaDig
import Derived.OpenShut
import Derived.LaidMore
namespace Go.Proofs.YtibkhajhmncgkaaDoor
open Go.ChangeShapes Go.WideShapes Go.ChangeAt Go.RowKit

theorem ints_of_array {H : Type} {enc : TypeId × Value → H} {W : World} {base : Nat} {sp : Nat → Bool} {held : Bool} {fuel : Nat} {t e : TypeId} {cs : List Value} {k : IntKind} {n : Nat} {ls : List Int} {ps : List MemPlace}
    (ht : Tryd.prog.underlying t = some (.array n e)) (he : Tryd.prog.underlying e = some (.int k)) (ce : Tryd.prog.cellsOf e = 1) (ct : Tryd.prog.cellsOf t = n)
    (h : DataW.trod enc Tryd.prog W base sp held fuel t cs = some (.agg (ls.map fun x => .lit (.int k x)), ps)) : cs = ls.map fun x => .int k x := by
  obtain ⟨xs, m, rfl, hx, hlen, hn, hel⟩ := DataW.trod_array ht h
  rw [ct] at hlen
  simp only [Prod.mk.injEq, DataW.agg.injEq] at hx
  have hll : ls.length = n := by have := congrArg List.length hx.1; simpa [hn] using this
  refine List.ext_getElem (by simp [hlen, hll]) fun i h1 h2 => ?_
  have hi := hel i (by omega)
  rw [ce, Nat.mul_one, List.getElem?_eq_getElem (by omega)] at hi
  obtain ⟨z, e1, e2, _⟩ := DataW.trod_int he hi
  have h3 : xs[i].1 = .lit (.int k ls[i]) := by
    have := congrArg (fun l : List (DataW H) => l[i]?) hx.1
    simp only [List.getElem?_map] at this
    rw [List.getElem?_eq_getElem (show i < ls.length by omega), List.getElem?_eq_getElem (show i < xs.length by omega)] at this
    simpa using this.symm
  rw [e2] at h3
  have hz : z = ls[i] := by simpa using h3
  have h4 : (cs.drop i).take 1 = [cs[i]] := by
    rw [List.drop_eq_getElem_cons h1]; rfl
  rw [h4] at e1
  rw [List.getElem_map, ← hz]
  simpa using e1

theorem gFirst : Tryd.prog.globalNamed "winepress/sha256.firstWords" = some 1 := by kernel_rfl
theorem gRound : Tryd.prog.globalNamed "winepress/sha256.roundWords" = some 2 := by kernel_rfl
theorem tFirst : (Tryd.prog.globals[1]?).map (·.type) = some 82 := by kernel_rfl
theorem tRound : (Tryd.prog.globals[2]?).map (·.type) = some 91 := by kernel_rfl
abbrev laid2 : List (String × DataW Unit) := [("winepress/sha256.firstWords", Rows.laid_winepress_sha256_firstWords), ("winepress/sha256.roundWords", Rows.laid_winepress_sha256_roundWords)]
def int8L : List Int := [1779033703, 3144134277, 1013904242, 2773480762, 1359893119, 2600822924, 528734635, 1541459225]
theorem lens : first8.agg.toList = int8L.map fun x => .int .u32 x := by rfl
theorem lens2 : Rows.laid_winepress_sha256_firstWords (H := Unit) = .agg (int8L.map fun x => .lit (.int .u32 x)) := by rfl
def int64L : List Int := kList.map fun x => (x.toNat : Int)
theorem lens3 : Rows.laid_winepress_sha256_roundWords (H := Unit) = .agg (int64L.map fun x => .lit (.int .u32 x)) := by rfl
/-- What the condition gives the walks. -/
theorem tabs_of_laid {W : World} (h : laidMet Tryd.prog laid2 W) : Tabs W := by
  obtain ⟨ps, ⟨g0, t0, cs0, f0, p0, q0, hg0, ht0, hv0, hd0, ⟨g1, t1, cs1, f1, p1, q1, hg1, ht1, hv1, hd1, _, _⟩, _⟩, _, _⟩ := h
  obtain rfl := Option.some.inj (gFirst.symm.trans hg0)
  obtain rfl := Option.some.inj (gRound.symm.trans hg1)
  obtain rfl := Option.some.inj (tFirst.symm.trans ht0)
  obtain rfl := Option.some.inj (tRound.symm.trans ht1)
  rw [lens2] at hd0
  rw [lens3] at hd1
  have hc0 := ints_of_array (n := 8) (by kernel_rfl) Tryd.underlying53 (by kernel_rfl) (by kernel_rfl) hd0
  have hc1 := ints_of_array (n := 64) (by kernel_rfl) Tryd.underlying53 (by kernel_rfl) (by kernel_rfl) hd1
  refine ⟨?_, fun i hi => ?_, ?_⟩
  · unfold World.var? at hv0
    rw [hg0] at hv0
    simp only [Option.bind_some] at hv0
    split at hv0
    · rename_i cs t fr hh
      refine ⟨t, fr, ?_⟩
      rw [hh]
      injection hv0 with hv0
      subst hv0
      rw [← lens] at hc0
      rw [show cs = first8.agg from Array.toList_inj.1 hc0]
    · cases hv0
  · rw [World.var?_cell hg1 hv1 i]
    obtain ⟨l⟩ := cs1
    simp only at hc1
    subst hc1
    unfold int64L
    have hk : i < kList.length := hi
    simp only [List.getElem?_toArray, List.getElem?_map, List.getElem?_eq_getElem hk, Option.map_some]
    unfold Kc
    rw [List.getD_eq_getElem?_getD, List.getElem?_eq_getElem hk]; rfl
  · unfold World.var? at hv1
    rw [hg1] at hv1
    simp only [Option.bind_some] at hv1
    split at hv1
    · rename_i hh; exact lt_of_heap hh
    · cases hv1

/-- A world that meets the condition. -/
noncomputable def laidWorld (os : Os) : World :=
  let w0 := World.holding Tryd.prog os ⟨#[], #[], []⟩
  let lay (l : List Int) : Obj → Obj
    | .cells _ t frozen => .cells (l.map fun x => .int .u32 x).toArray t frozen
    | o => o
  { w0 with heap := (w0.heap.modify 1 (lay int8L)).modify 2 (lay int64L) }
theorem laidWorld_met (os : Os) (args : Array Value) : laidMet Tryd.prog laid2 ((laidWorld os).forCall (fun _ _ => 0) ⟨#[], args, []⟩).memory :=
  laidMet_of_run' 8 (by kernel_rfl) (by kernel_rfl)
end Go.Proofs.YtibkhajhmncgkaaDoor
