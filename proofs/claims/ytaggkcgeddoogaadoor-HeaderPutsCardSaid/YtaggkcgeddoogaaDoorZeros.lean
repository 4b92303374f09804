/- append(b, make([]byte, n)...): n zeros behind a slice of the call's own. -/
import Derived.Test.YtaggkcgeddoogaaDoorBase
namespace Go.Proofs.YtaggkcgeddoogaaDoor
open Go.RowKit

theorem zeroCells8 (n : Nat) : (Builtin.zeroCells (Value.int .u8 0).cells n).toList = List.replicate n (Value.int .u8 0) := by
  have hc : (Value.int .u8 0).cells = #[Value.int .u8 0] := rfl
  rw [hc]
  unfold Builtin.zeroCells
  apply List.ext_getElem
  · simp
  · intro i h1 h2
    simp [Nat.mod_one]
set_option maxRecDepth 100000 in
theorem run_append_zeros (base : Nat) (ty : TypeId) (w : World) (v : Value) (xs : List UInt8) (hown : Own base w v xs) (h0 : 0 < xs.length) (z : Nat) (hz : z ≤ 1000000) (hsz : xs.length + z ≤ 140737488355328) (hbase : base ≤ w.heap.size) :
    ∃ v' w', (Builtin.append_ #[26, 3] ty #[v, .int .i64 (z : Nat)]).run Tryd.prog w = .ok v' w' ∧ Own base w' v' (xs ++ List.replicate z 0) ∧ w.grownBy w' v.ownBlock := by
  obtain ⟨i, hi, hz0, hz1, hz2⟩ := info_parts info8
  have hwr : IntKind.i64.wrap (z : Int) = (z : Int) := IntWalk.i64_in _ (by omega)
  have hb1 : ¬ (z : Int) < 0 := by omega
  have hb2 : ¬ (281474976710656 : Int) < (z : Int) := by omega
  have hmap : (xs ++ List.replicate z (0 : UInt8)).map B8 = xs.map B8 ++ List.replicate z (Value.int .u8 0) := by
    rw [List.map_append, List.map_replicate]; rfl
  have hnew : (if z * i.size = 0 then (pure #[] : Sem (Array Value)) else pure (Builtin.zeroCells (Value.int .u8 0).cells z)) = pure (List.replicate z (Value.int .u8 0)).toArray := by
    rw [hz1, Nat.mul_one]
    by_cases hz00 : z = 0
    · subst hz00; rfl
    · rw [if_neg hz00]
      congr 1
      apply Array.ext'
      rw [zeroCells8]
  rcases hown with ⟨hl, ⟨_, h⟩ | ⟨g, cap, cur, rfl, hb, hg, hnc, hcm, hcs, htake⟩⟩
  · omega
  · by_cases hroom : xs.length + z ≤ cap
    · have hst := run_storeCells_at Tryd.prog g (xs.length * i.size) 5 (List.replicate z (Value.int .u8 0)) 0 cur w hg (by rw [hz1, List.length_replicate]; omega) (by intro u hu; rw [List.eq_of_mem_replicate hu]; rfl)
      simp only [Nat.add_zero, hz1, Nat.mul_one] at hst
      have hrun : (Builtin.append_ #[26, 3] ty #[.slice (some ⟨g, 0, none⟩) xs.length cap, .int .i64 (z : Nat)]).run Tryd.prog w = .ok (.slice (some ⟨g, 0, none⟩) (xs.length + z) cap) (w.setRow g (List.take xs.length cur.toList ++ List.replicate z (Value.int IntKind.u8 0) ++ List.drop (xs.length + (List.replicate z (Value.int IntKind.u8 0)).length) cur.toList).toArray) := by
        by_cases hz00 : z = 0
        · subst hz00
          simp only [List.replicate_zero] at hst
          have hw0 : IntKind.i64.wrap 0 = 0 := by decide
          simp [Builtin.append_, run_underlying Tryd.underlying26, run_underlying Tryd.underlying3, sizeOf, typeInfo, zeroValue, hi, hz1, hz2, hw0, hnc, asInt, asIntOf, Addr.add_lit, hst]
        · simp [Builtin.append_, run_underlying Tryd.underlying26, run_underlying Tryd.underlying3, sizeOf, typeInfo, zeroValue, hi, hz0, hz1, hz2, hwr, hb1, hb2, hz00, hroom, asInt, asIntOf, Addr.add_lit, zeroCells8, hst]
      refine ⟨_, _, hrun, ⟨by simp, .inr ⟨g, cap, _, by simp, hb, setRow_heap w g cur _ _ _ hg, by simpa using hroom, hcm, ?_, ?_⟩⟩, ⟨rfl, rfl, rfl, by simp, fun k _ hk => setRow_other w g k _ (fun e => hk (by simp [Value.ownBlock, e]))⟩⟩
      · simp; omega
      · rw [hmap]
        simp only [Nat.mul_one] at htake
        rw [htake]
        have e : xs.length + z = (List.map B8 xs ++ List.replicate z (Value.int IntKind.u8 0)).length := by simp
        simp only [List.length_append, List.length_replicate, Nat.mul_one]
        rw [e]
        exact List.take_left
    · have hz00 : ¬ z = 0 := by omega
      have hng : ¬ (9223372036854775807 : Int) < (xs.length : Int) + (z : Int) := by omega
      have hfit : ¬ 281474976710656 < Builtin.nextslicecap (xs.length + z) cap := by
        have := growslice_fits (need := xs.length + z) (old := cap) (bytes := 1) (by omega) (by omega)
        omega
      have hfo := run_firstCells_some (P := Tryd.prog) w.drew 1 xs.length ⟨g, 0, none⟩ xs.length cap (xs.map B8) (by simp) (by
        intro j u hu
        have := (show Own base w (.slice (some ⟨g, 0, none⟩) xs.length cap) xs from ⟨hl, .inr ⟨g, cap, cur, rfl, hb, hg, hnc, hcm, hcs, htake⟩⟩)
        exact World.ownsRow.cells this (g := g) rfl j u hu)
      have hrun : (Builtin.append_ #[26, 3] ty #[.slice (some ⟨g, 0, none⟩) xs.length cap, .int .i64 (z : Nat)]).run Tryd.prog w = .ok (.slice (some ⟨w.heap.size, 0, none⟩) (xs.length + z) (grownCap w (xs.length + z) cap 5)) (w.drew.alloc (.cells ((xs.map B8).toArray ++ (List.replicate z (Value.int .u8 0)).toArray ++ Builtin.zeroCells (Value.int .u8 0).cells (grownCap w (xs.length + z) cap 5 - (xs.length + z))) 5)) := by
        have hzc : Builtin.zeroCells (Value.int .u8 0).cells z = (List.replicate z (Value.int .u8 0)).toArray := Array.ext' (zeroCells8 z)
        simp [Builtin.append_, run_underlying Tryd.underlying26, run_underlying Tryd.underlying3, sizeOf, typeInfo, zeroValue, hi, hz0, hz1, hz2, hwr, hb1, hb2, hz00, hroom, hng, hfit, asInt, asIntOf, hzc, hfo, Question.forced, newRow, grownCap]
      have hge := grownCap_ge w (xs.length + z) cap 5
      have hcm2 := grownCap_le_maxLen w (xs.length + z) cap 5 (by unfold maxLen; omega)
      refine ⟨_, _, hrun, ⟨by simp, .inr ⟨w.heap.size, _, _, by simp, hbase, heap_alloc_new w.drew _, by simpa using hge, hcm2, ?_, ?_⟩⟩, ⟨rfl, rfl, rfl, by simp, fun k hk _ => heap_alloc_old w.drew _ hk⟩⟩
      · have hc1 : (Value.int .u8 0).cells.size = 1 := rfl
        simp only [Array.size_append, List.size_toArray, size_zeroCells, List.length_map, List.length_replicate, hc1, Nat.mul_one]
        omega
      · rw [hmap]
        have e : (xs ++ List.replicate z (0 : UInt8)).length * 1 = (List.map B8 xs ++ List.replicate z (Value.int IntKind.u8 0)).length := by simp
        simp only [Array.toList_append]
        rw [e]
        exact List.take_left
theorem step_append_zeros {ops : Array Oper} {o : Oper} {a : Act} {K : Act → World → Prop} {Q : Exit → Act → World → Prop} (hgd : o.guard = none) (s x : Operand)
    (ho : o.op = .call { callee := .builtin .append, args := #[s, x], argTypes := #[26, 3] })
    (base : Nat) (w : World) (v : Value) (xs : List UInt8) (hs : a.eval s = v) (hown : Own base w v xs) (h0 : 0 < xs.length) (z : Nat) (hx : a.eval x = .int .i64 (z : Nat)) (hz : z ≤ 1000000) (hsz : xs.length + z ≤ 140737488355328) (hbase : base ≤ w.heap.size)
    (h : ∀ v' w', Own base w' v' (xs ++ List.replicate z 0) → w.grownBy w' v.ownBlock → K (a.put o.dst v') w') : if Region.wanted o (yielded ops a.tmps) = true then Oper.wp Tryd.prog o a w K Q else K (a.put o.dst undef) w := by
  rw [if_pos (by simp [Region.wanted, hgd])]
  obtain ⟨v', w', hr, h2, h3⟩ := run_append_zeros base o.type w v xs hown h0 z hz hsz hbase
  unfold Oper.wp execOp
  simp only [ho, resolve, invoke, builtin, Sem.run_bind, Sem.run_pure, Result.andThen_ok, List.map_toArray, List.map_cons, List.map_nil, hs, hx, hr]
  exact h v' w' h2 h3
end Go.Proofs.YtaggkcgeddoogaaDoor
