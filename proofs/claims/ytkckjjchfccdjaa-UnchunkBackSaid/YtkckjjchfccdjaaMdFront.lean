/- The model's toFront. -/
import Derived.Test.YtkckjjchfccdjaaMg1
import Derived.Test.YtkckjjchfccdjaaMdMem
import Derived.Laws.CopyRow
namespace Go.Proofs.Ytkckjjchfccdjaa
set_option maxRecDepth 100000
open Go.RowKit

/-- A copy inside a row, as one step of a region that draws its order. -/
theorem step_copy_only {P : Program} {ops : Array Oper} {o : Oper} {a : Act} {w : World} {K : Act → World → Prop} {Q : Exit → Act → World → Prop} {E : Prop} (hgd : o.guard = none) (d s : Operand) (dT sT : TypeId)
    (ho : o.op = .call { callee := .builtin .copy, args := #[d, s], argTypes := #[dT, sT] }) (elem : TypeId) (hu : P.underlying dT = some (.slice elem)) (hsz : (P.info? elem).map (·.size) = some 1)
    (g off sOff n dCap sCap : Nat) (hd : a.eval d = .slice (some ⟨g, off, none⟩) n dCap) (hs : a.eval s = .slice (some ⟨g, sOff, none⟩) n sCap) (cur : List Value) (t : TypeId) (hg : w.heap[g]? = some (.cells cur.toArray t (0, 0)))
    (cs : List Value) (hn : cs.length = n) (hsrc : ∀ j, j < cs.length → cs[j]? = cur[sOff + j]?) (hfit : off + cs.length ≤ cur.length) (h1 : ∀ v ∈ cs, v.oneCell' = true)
    (h : ∀ w', w'.heap[g]? = some (.cells (cur.take off ++ cs ++ cur.drop (off + cs.length)).toArray t (0, 0)) → Only [g] w w' → K (a.put o.dst (goInt cs.length)) w') :
    if Region.wanted o (yielded ops a.tmps) = true then Oper.wp P o a w K Q else E := by
  have hw : Region.wanted o (yielded ops a.tmps) = true := by simp [Region.wanted, hgd]
  rw [if_pos hw]
  by_cases h0 : cs.length = 0
  · obtain rfl : cs = [] := List.eq_nil_of_length_eq_zero h0
    have hrun := run_copy_none (P := P) w dT sT o.type elem (some ⟨g, off, none⟩) (some ⟨g, sOff, none⟩) n dCap n sCap hu hsz (by simp at hn; rw [← hn]; rfl)
    unfold Oper.wp
    simp [execOp, ho, resolve, invoke, builtin, hd, hs, hrun, Result.andThen]
    exact h w (by simpa using hg) (Only.refl _ _)
  · have hrun := run_copy_row (P := P) w dT sT o.type elem g off n dCap ⟨g, sOff, none⟩ n sCap cur.toArray t cs hu hsz hg (by rw [hn]; exact (Nat.min_self n).symm) (by
      intro j v hj
      have hjl : j < cs.length := (List.getElem?_eq_some_iff.1 hj).1
      have e : ((⟨g, sOff, none⟩ : Addr).add j) = ⟨g, sOff + j, none⟩ := by unfold Addr.add; split <;> simp_all
      rw [e, cell_of_row w g _ _ _ _ hg, List.getElem?_toArray, ← hsrc j hjl, hj]) (by simpa using hfit) h1
    unfold Oper.wp
    simp [execOp, ho, resolve, invoke, builtin, hd, hs, hrun, Result.andThen]
    refine h _ (by simpa using setRow_heap w g _ _ t _ hg) ⟨rfl, rfl, rfl, by simp, fun i _ hX => setRow_other w g i _ (by simpa using hX)⟩
section
variable {w w' : World} {C L lc lp pb st st' : Nat} {r r' : R4} {P : Nat → Nat}
theorem ModAt.newHead (h : ModAt w C L lc lp pb st r P) {T : List Value} (hT : w.heap[C]? = some (.cells (mdHead lc lp pb st r ++ T).toArray 121 (0, 0))) (hT' : w'.heap[C]? = some (.cells (mdHead lc lp pb st' r' ++ T).toArray 121 (0, 0))) (hL : w'.heap[L]? = w.heap[L]?) : ModAt w' C L lc lp pb st' r' P := by
  obtain ⟨T2, hT2, hTl⟩ := h.box
  obtain ⟨l, hl, hll⟩ := h.lits
  have hTT : T.length = 2053 := by
    rw [hT] at hT2
    injection hT2 with h1
    injection h1 with h1 _ _
    have := congrArg Array.size h1
    simp at this
    omega
  have hsame : ∀ k, 8 ≤ k → w'.cell? ⟨C, k, none⟩ = w.cell? ⟨C, k, none⟩ := fun k hk => by
    rw [cell_of_row w' _ _ _ _ _ hT', cell_of_row w _ _ _ _ _ hT, List.getElem?_toArray, List.getElem?_toArray, List.getElem?_append_right (by simpa using hk), List.getElem?_append_right (by simpa using hk)]; rfl
  refine ⟨⟨T, hT', hTT⟩, ⟨l, hL.trans hl, hll⟩, (hsame 440 (by decide)).trans h.lit, h.ne, fun i hi => ?_, h.fair⟩
  obtain ⟨c, hc, he⟩ := h.chance i hi
  refine ⟨c, ?_, he⟩
  rw [← hc]
  by_cases h3 : i < 2180
  · have ha : Md.adr C L i = ⟨C, Md.offOf i, none⟩ := by unfold Md.adr Md.blkOf; rw [if_pos h3]
    rw [ha]
    exact hsame _ (by unfold Md.offOf Md.used at *; by_cases a1 : i < 432 <;> by_cases a2 : i < 1844 <;> simp only [a1, a2, h3, if_true, if_false] <;> omega)
  · have ha : Md.adr C L i = ⟨L, Md.offOf i, none⟩ := by unfold Md.adr Md.blkOf; rw [if_neg h3]
    rw [ha]
    unfold World.cell?
    rw [hL]
end
theorem cut4lhC (g n : Nat) (h : n ≤ 3) (w : World) : (Instr.sliceAt 103 (.pointer (some ⟨g, 4, none⟩)) (some (.int .i64 1)) (some (.int .i64 (n + 1 : Nat))) none).run Try.prog w = .ok (.slice (some ⟨g, 5, none⟩) n 3) w := by
  have hs : (sizeOf (Try.prog.elem 103)).run Try.prog w = .ok 1 w := by kernel_rfl
  rw [run_sliceAt_array_lh w 103 ⟨g, 4, none⟩ und4 .i64 .i64 1 (n + 1 : Nat) (by decide) (by omega) (by rw [len4]; omega), hs, len4]
  simp only [Result.andThen, slicedAt, Int.toNat_natCast, Nat.mul_one]
  rw [if_neg (by decide), show (1 : Int).toNat = 1 from rfl, Addr.add_mid, Nat.add_sub_cancel]
theorem cut4hC (g n : Nat) (h : n ≤ 4) (w : World) : (Instr.sliceAt 103 (.pointer (some ⟨g, 4, none⟩)) none (some (.int .i64 (n : Nat))) none).run Try.prog w = .ok (.slice (some ⟨g, 4, none⟩) n 4) w := by
  have hs : (sizeOf (Try.prog.elem 103)).run Try.prog w = .ok 1 w := by kernel_rfl
  rw [run_sliceAt_array_h w 103 ⟨g, 4, none⟩ und4 .i64 (n : Nat) (by omega) (by rw [len4]; omega), hs, len4]
  simp only [Result.andThen, slicedAt, Int.toNat_natCast, Nat.mul_one, Nat.sub_zero]
  rw [if_neg (by decide)]
  simp [Addr.add]
def frontR (r : R4) (which : Nat) (d : Int) : R4 := match which with
  | 0 => (d, r.2.1, r.2.2.1, r.2.2.2)
  | 1 => (d, r.1, r.2.2.1, r.2.2.2)
  | 2 => (d, r.1, r.2.1, r.2.2.2)
  | _ => (d, r.1, r.2.1, r.2.2.1)
def FrontDone (C L lc lp pb st : Nat) (r : R4) (P : Nat → Nat) (w : World) (e : Ending) (w' : World) : Prop := e = .returned (.tuple #[]) ∧ ModAt w' C L lc lp pb st r P ∧ Only [C] w w'
set_option maxRecDepth 100000 in
set_option maxHeartbeats 1000000 in
theorem front_0 {C L lc lp pb st : Nat} {r : R4} {P : Nat → Nat} {w : World} (hM : ModAt w C L lc lp pb st r P) (d : Int) : Calls Try.prog 102 #[PF C, .int .i64 0, .int .i64 d] w (FrontDone C L lc lp pb st (d, r.2.1, r.2.2.1, r.2.2.2) P w) := by
  obtain ⟨T, hT, hTl⟩ := hM.box
  have HT := Lib.hid hT
  have HTL := Lib.hid hTl
  have HM := Lib.hid hM
  have q1 : ∀ w, (Instr.sliceAt 103 (.pointer (some ⟨C, 4, none⟩)) (some (.int .i64 1)) (some (.int .i64 1)) none).run Try.prog w = .ok (.slice (some ⟨C, 5, none⟩) 0 3) w := fun w => cut4lhC C 0 (by decide) w
  have q2 : ∀ w, (Instr.sliceAt 103 (.pointer (some ⟨C, 4, none⟩)) none (some (.int .i64 0)) none).run Try.prog w = .ok (.slice (some ⟨C, 4, none⟩) 0 4) w := fun w => cut4hC C 0 (by decide) w
  have hwr : IntKind.i64.wrap 1 = 1 := by decide
  have h3d : w.drew.heap[C]? = some (.cells (mdHead lc lp pb st r ++ T).toArray 121 (0, 0)) := hT
  have hlen : (mdHead lc lp pb st r ++ T).length = 2061 := by simp [hTl]
  have hfit : 5 + 0 ≤ (mdHead lc lp pb st r ++ T).length := by omega
  clear hM hT hTl hlen
  go_enter Try.func102, Try.ntmps102
  go_upto_region 0 with fail
  refine wp_region_held_drew (S := fun _ => True) (by kernel_rfl) trivial (fun hS => ?_)
  refine tk 0 (v := ?vfr01) ?yfr01 hS ?_
  case yfr01 =>
    intro w hSw
    go_simp; all_goals (with_reducible rfl)
  simp only [Act.put, List.setIfInBounds_toArray, List.set_cons_zero, List.set_cons_succ]
  refine tk 1 (v := ?vfr02) ?yfr02 hS ?_
  case yfr02 =>
    intro w hSw
    go_simp; all_goals (with_reducible rfl)
  simp only [Act.put, List.setIfInBounds_toArray, List.set_cons_zero, List.set_cons_succ]
  refine tk 2 (v := ?vfr03) ?yfr03 hS ?_
  case yfr03 =>
    intro w hSw
    go_simp; all_goals (with_reducible rfl)
  simp only [Act.put, List.setIfInBounds_toArray, List.set_cons_zero, List.set_cons_succ]
  refine tk 3 (v := ?vfr04) ?yfr04 hS ?_
  case yfr04 =>
    intro w hSw
    go_simp; all_goals (with_reducible rfl)
  simp only [Act.put, List.setIfInBounds_toArray, List.set_cons_zero, List.set_cons_succ]
  refine tk 4 (v := ?vfr05) ?yfr05 hS ?_
  case yfr05 =>
    intro w hSw
    go_simp; all_goals (with_reducible rfl)
  simp only [Act.put, List.setIfInBounds_toArray, List.set_cons_zero, List.set_cons_succ]
  refine tk 5 (v := ?vfr06) ?yfr06 hS ?_
  case yfr06 =>
    intro w hSw
    go_simp; all_goals (with_reducible rfl)
  simp only [Act.put, List.setIfInBounds_toArray, List.set_cons_zero, List.set_cons_succ]
  refine tk 6 (v := ?vfr07) ?yfr07 hS ?_
  case yfr07 =>
    intro w hSw
    go_simp; all_goals (with_reducible rfl)
  simp only [Act.put, List.setIfInBounds_toArray, List.set_cons_zero, List.set_cons_succ]
  refine tk 7 (v := ?vfr08) ?yfr08 hS ?_
  case yfr08 =>
    intro w hSw
    go_simp; all_goals (with_reducible rfl)
  simp only [Act.put, List.setIfInBounds_toArray, List.set_cons_zero, List.set_cons_succ]
  refine tk 8 (v := ?vfr09) ?yfr09 hS ?_
  case yfr09 =>
    intro w hSw
    go_simp; all_goals (with_reducible rfl)
  simp only [Act.put, List.setIfInBounds_toArray, List.set_cons_zero, List.set_cons_succ]
  refine tk 9 (v := ?vfr010) ?yfr010 hS ?_
  case yfr010 =>
    intro w hSw
    go_simp; all_goals (with_reducible rfl)
  simp only [Act.put, List.setIfInBounds_toArray, List.set_cons_zero, List.set_cons_succ]
  refine tk 10 (v := ?vfr011) ?yfr011 hS ?_
  case yfr011 =>
    intro w hSw
    go_simp; all_goals (with_reducible rfl)
  simp only [Act.put, List.setIfInBounds_toArray, List.set_cons_zero, List.set_cons_succ]
  refine wpAnyH_ready (rs := [11]) (by kernel_rfl) (by simp) ?_
  refine (AllReadyH.cons (o := { dst := some 17, op := Op.call { callee := Callee.builtin Builtin.copy, args := #[Operand.tmp 11, Operand.tmp 16], argTypes := #[91, 91] }, type := 3, pos := "model.go:177", after := #[{ on := 5, ground := Ground.data }, { on := 10, ground := Ground.data }], guard := none }) rfl (fun K hK => ?_) AllReadyH.nil)
  refine step_copy_only rfl (.tmp 11) (.tmp 16) 91 91 rfl 3 Try.underlying91 (by kernel_rfl) C 5 4 0 _ _ rfl rfl (mdHead lc lp pb st r ++ T) 121 h3d ([]) rfl (by simp) hfit (by simp) ?_
  intro w4 hg4 ho4
  simp only [Act.put]
  refine hK.out _ _ trivial (fun _ => ?_)
  clear hK K
  refine wpAnyH_done (by kernel_rfl) ?_ _
  have hg5 : w4.heap[C]? = some (.cells (mdHead lc lp pb st (r.1, r.2.1, r.2.2.1, r.2.2.2) ++ T).toArray 121 (0, 0)) := hg4
  have hon : Only [C] w w4 := ⟨ho4.os, ho4.tape, ho4.output, ho4.size, ho4.block⟩
  have hm4 : ModAt w4 C L lc lp pb st (r.1, r.2.1, r.2.2.1, r.2.2.2) P := HM.out.newHead HT.out hg5 (hon.block L HM.out.llt (by simp; exact fun e => HM.out.ne e.symm))
  obtain ⟨_, _, _, _, c4, _⟩ := hm4.cells
  have f4 := hm4.frozenC 4
  have HM4 := Lib.hid hm4
  have HON := Lib.hid hon
  clear h3d hfit hg4 ho4 hg5 hon hm4 q1 q2 hwr
  go_wp2_with fail
  refine bodyPost_ret_by (results_none rfl _ _ _) rfl ⟨rfl, ?_, ?_⟩
  · exact HM4.out.setHead (k := 4) (st' := st) (r' := (d, r.2.1, r.2.2.1, r.2.2.2)) (by decide) rfl
  · exact HON.out.setCell (p := ⟨C, 4, none⟩) (.inl (by simp)) _
set_option maxRecDepth 100000 in
set_option maxHeartbeats 1000000 in
theorem front_1 {C L lc lp pb st : Nat} {r : R4} {P : Nat → Nat} {w : World} (hM : ModAt w C L lc lp pb st r P) (d : Int) : Calls Try.prog 102 #[PF C, .int .i64 1, .int .i64 d] w (FrontDone C L lc lp pb st (d, r.1, r.2.2.1, r.2.2.2) P w) := by
  obtain ⟨T, hT, hTl⟩ := hM.box
  have HT := Lib.hid hT
  have HTL := Lib.hid hTl
  have HM := Lib.hid hM
  have q1 : ∀ w, (Instr.sliceAt 103 (.pointer (some ⟨C, 4, none⟩)) (some (.int .i64 1)) (some (.int .i64 2)) none).run Try.prog w = .ok (.slice (some ⟨C, 5, none⟩) 1 3) w := fun w => cut4lhC C 1 (by decide) w
  have q2 : ∀ w, (Instr.sliceAt 103 (.pointer (some ⟨C, 4, none⟩)) none (some (.int .i64 1)) none).run Try.prog w = .ok (.slice (some ⟨C, 4, none⟩) 1 4) w := fun w => cut4hC C 1 (by decide) w
  have hwr : IntKind.i64.wrap 2 = 2 := by decide
  have h3d : w.drew.heap[C]? = some (.cells (mdHead lc lp pb st r ++ T).toArray 121 (0, 0)) := hT
  have hlen : (mdHead lc lp pb st r ++ T).length = 2061 := by simp [hTl]
  have hfit : 5 + 1 ≤ (mdHead lc lp pb st r ++ T).length := by omega
  clear hM hT hTl hlen
  go_enter Try.func102, Try.ntmps102
  go_upto_region 0 with fail
  refine wp_region_held_drew (S := fun _ => True) (by kernel_rfl) trivial (fun hS => ?_)
  refine tk 0 (v := ?vfr112) ?yfr112 hS ?_
  case yfr112 =>
    intro w hSw
    go_simp; all_goals (with_reducible rfl)
  simp only [Act.put, List.setIfInBounds_toArray, List.set_cons_zero, List.set_cons_succ]
  refine tk 1 (v := ?vfr113) ?yfr113 hS ?_
  case yfr113 =>
    intro w hSw
    go_simp; all_goals (with_reducible rfl)
  simp only [Act.put, List.setIfInBounds_toArray, List.set_cons_zero, List.set_cons_succ]
  refine tk 2 (v := ?vfr114) ?yfr114 hS ?_
  case yfr114 =>
    intro w hSw
    go_simp; all_goals (with_reducible rfl)
  simp only [Act.put, List.setIfInBounds_toArray, List.set_cons_zero, List.set_cons_succ]
  refine tk 3 (v := ?vfr115) ?yfr115 hS ?_
  case yfr115 =>
    intro w hSw
    go_simp; all_goals (with_reducible rfl)
  simp only [Act.put, List.setIfInBounds_toArray, List.set_cons_zero, List.set_cons_succ]
  refine tk 4 (v := ?vfr116) ?yfr116 hS ?_
  case yfr116 =>
    intro w hSw
    go_simp; all_goals (with_reducible rfl)
  simp only [Act.put, List.setIfInBounds_toArray, List.set_cons_zero, List.set_cons_succ]
  refine tk 5 (v := ?vfr117) ?yfr117 hS ?_
  case yfr117 =>
    intro w hSw
    go_simp; all_goals (with_reducible rfl)
  simp only [Act.put, List.setIfInBounds_toArray, List.set_cons_zero, List.set_cons_succ]
  refine tk 6 (v := ?vfr118) ?yfr118 hS ?_
  case yfr118 =>
    intro w hSw
    go_simp; all_goals (with_reducible rfl)
  simp only [Act.put, List.setIfInBounds_toArray, List.set_cons_zero, List.set_cons_succ]
  refine tk 7 (v := ?vfr119) ?yfr119 hS ?_
  case yfr119 =>
    intro w hSw
    go_simp; all_goals (with_reducible rfl)
  simp only [Act.put, List.setIfInBounds_toArray, List.set_cons_zero, List.set_cons_succ]
  refine tk 8 (v := ?vfr120) ?yfr120 hS ?_
  case yfr120 =>
    intro w hSw
    go_simp; all_goals (with_reducible rfl)
  simp only [Act.put, List.setIfInBounds_toArray, List.set_cons_zero, List.set_cons_succ]
  refine tk 9 (v := ?vfr121) ?yfr121 hS ?_
  case yfr121 =>
    intro w hSw
    go_simp; all_goals (with_reducible rfl)
  simp only [Act.put, List.setIfInBounds_toArray, List.set_cons_zero, List.set_cons_succ]
  refine tk 10 (v := ?vfr122) ?yfr122 hS ?_
  case yfr122 =>
    intro w hSw
    go_simp; all_goals (with_reducible rfl)
  simp only [Act.put, List.setIfInBounds_toArray, List.set_cons_zero, List.set_cons_succ]
  refine wpAnyH_ready (rs := [11]) (by kernel_rfl) (by simp) ?_
  refine (AllReadyH.cons (o := { dst := some 17, op := Op.call { callee := Callee.builtin Builtin.copy, args := #[Operand.tmp 11, Operand.tmp 16], argTypes := #[91, 91] }, type := 3, pos := "model.go:177", after := #[{ on := 5, ground := Ground.data }, { on := 10, ground := Ground.data }], guard := none }) rfl (fun K hK => ?_) AllReadyH.nil)
  refine step_copy_only rfl (.tmp 11) (.tmp 16) 91 91 rfl 3 Try.underlying91 (by kernel_rfl) C 5 4 1 _ _ rfl rfl (mdHead lc lp pb st r ++ T) 121 h3d ([Value.int .i64 r.1]) rfl (by intro j hj; match j, hj with | 0, _ => rfl) hfit (by intro v hv; simp at hv; subst hv; rfl) ?_
  intro w4 hg4 ho4
  simp only [Act.put]
  refine hK.out _ _ trivial (fun _ => ?_)
  clear hK K
  refine wpAnyH_done (by kernel_rfl) ?_ _
  have hg5 : w4.heap[C]? = some (.cells (mdHead lc lp pb st (r.1, r.1, r.2.2.1, r.2.2.2) ++ T).toArray 121 (0, 0)) := hg4
  have hon : Only [C] w w4 := ⟨ho4.os, ho4.tape, ho4.output, ho4.size, ho4.block⟩
  have hm4 : ModAt w4 C L lc lp pb st (r.1, r.1, r.2.2.1, r.2.2.2) P := HM.out.newHead HT.out hg5 (hon.block L HM.out.llt (by simp; exact fun e => HM.out.ne e.symm))
  obtain ⟨_, _, _, _, c4, _⟩ := hm4.cells
  have f4 := hm4.frozenC 4
  have HM4 := Lib.hid hm4
  have HON := Lib.hid hon
  clear h3d hfit hg4 ho4 hg5 hon hm4 q1 q2 hwr
  go_wp2_with fail
  refine bodyPost_ret_by (results_none rfl _ _ _) rfl ⟨rfl, ?_, ?_⟩
  · exact HM4.out.setHead (k := 4) (st' := st) (r' := (d, r.1, r.2.2.1, r.2.2.2)) (by decide) rfl
  · exact HON.out.setCell (p := ⟨C, 4, none⟩) (.inl (by simp)) _
set_option maxRecDepth 100000 in
set_option maxHeartbeats 1000000 in
theorem front_2 {C L lc lp pb st : Nat} {r : R4} {P : Nat → Nat} {w : World} (hM : ModAt w C L lc lp pb st r P) (d : Int) : Calls Try.prog 102 #[PF C, .int .i64 2, .int .i64 d] w (FrontDone C L lc lp pb st (d, r.1, r.2.1, r.2.2.2) P w) := by
  obtain ⟨T, hT, hTl⟩ := hM.box
  have HT := Lib.hid hT
  have HTL := Lib.hid hTl
  have HM := Lib.hid hM
  have q1 : ∀ w, (Instr.sliceAt 103 (.pointer (some ⟨C, 4, none⟩)) (some (.int .i64 1)) (some (.int .i64 3)) none).run Try.prog w = .ok (.slice (some ⟨C, 5, none⟩) 2 3) w := fun w => cut4lhC C 2 (by decide) w
  have q2 : ∀ w, (Instr.sliceAt 103 (.pointer (some ⟨C, 4, none⟩)) none (some (.int .i64 2)) none).run Try.prog w = .ok (.slice (some ⟨C, 4, none⟩) 2 4) w := fun w => cut4hC C 2 (by decide) w
  have hwr : IntKind.i64.wrap 3 = 3 := by decide
  have h3d : w.drew.heap[C]? = some (.cells (mdHead lc lp pb st r ++ T).toArray 121 (0, 0)) := hT
  have hlen : (mdHead lc lp pb st r ++ T).length = 2061 := by simp [hTl]
  have hfit : 5 + 2 ≤ (mdHead lc lp pb st r ++ T).length := by omega
  clear hM hT hTl hlen
  go_enter Try.func102, Try.ntmps102
  go_upto_region 0 with fail
  refine wp_region_held_drew (S := fun _ => True) (by kernel_rfl) trivial (fun hS => ?_)
  refine tk 0 (v := ?vfr223) ?yfr223 hS ?_
  case yfr223 =>
    intro w hSw
    go_simp; all_goals (with_reducible rfl)
  simp only [Act.put, List.setIfInBounds_toArray, List.set_cons_zero, List.set_cons_succ]
  refine tk 1 (v := ?vfr224) ?yfr224 hS ?_
  case yfr224 =>
    intro w hSw
    go_simp; all_goals (with_reducible rfl)
  simp only [Act.put, List.setIfInBounds_toArray, List.set_cons_zero, List.set_cons_succ]
  refine tk 2 (v := ?vfr225) ?yfr225 hS ?_
  case yfr225 =>
    intro w hSw
    go_simp; all_goals (with_reducible rfl)
  simp only [Act.put, List.setIfInBounds_toArray, List.set_cons_zero, List.set_cons_succ]
  refine tk 3 (v := ?vfr226) ?yfr226 hS ?_
  case yfr226 =>
    intro w hSw
    go_simp; all_goals (with_reducible rfl)
  simp only [Act.put, List.setIfInBounds_toArray, List.set_cons_zero, List.set_cons_succ]
  refine tk 4 (v := ?vfr227) ?yfr227 hS ?_
  case yfr227 =>
    intro w hSw
    go_simp; all_goals (with_reducible rfl)
  simp only [Act.put, List.setIfInBounds_toArray, List.set_cons_zero, List.set_cons_succ]
  refine tk 5 (v := ?vfr228) ?yfr228 hS ?_
  case yfr228 =>
    intro w hSw
    go_simp; all_goals (with_reducible rfl)
  simp only [Act.put, List.setIfInBounds_toArray, List.set_cons_zero, List.set_cons_succ]
  refine tk 6 (v := ?vfr229) ?yfr229 hS ?_
  case yfr229 =>
    intro w hSw
    go_simp; all_goals (with_reducible rfl)
  simp only [Act.put, List.setIfInBounds_toArray, List.set_cons_zero, List.set_cons_succ]
  refine tk 7 (v := ?vfr230) ?yfr230 hS ?_
  case yfr230 =>
    intro w hSw
    go_simp; all_goals (with_reducible rfl)
  simp only [Act.put, List.setIfInBounds_toArray, List.set_cons_zero, List.set_cons_succ]
  refine tk 8 (v := ?vfr231) ?yfr231 hS ?_
  case yfr231 =>
    intro w hSw
    go_simp; all_goals (with_reducible rfl)
  simp only [Act.put, List.setIfInBounds_toArray, List.set_cons_zero, List.set_cons_succ]
  refine tk 9 (v := ?vfr232) ?yfr232 hS ?_
  case yfr232 =>
    intro w hSw
    go_simp; all_goals (with_reducible rfl)
  simp only [Act.put, List.setIfInBounds_toArray, List.set_cons_zero, List.set_cons_succ]
  refine tk 10 (v := ?vfr233) ?yfr233 hS ?_
  case yfr233 =>
    intro w hSw
    go_simp; all_goals (with_reducible rfl)
  simp only [Act.put, List.setIfInBounds_toArray, List.set_cons_zero, List.set_cons_succ]
  refine wpAnyH_ready (rs := [11]) (by kernel_rfl) (by simp) ?_
  refine (AllReadyH.cons (o := { dst := some 17, op := Op.call { callee := Callee.builtin Builtin.copy, args := #[Operand.tmp 11, Operand.tmp 16], argTypes := #[91, 91] }, type := 3, pos := "model.go:177", after := #[{ on := 5, ground := Ground.data }, { on := 10, ground := Ground.data }], guard := none }) rfl (fun K hK => ?_) AllReadyH.nil)
  refine step_copy_only rfl (.tmp 11) (.tmp 16) 91 91 rfl 3 Try.underlying91 (by kernel_rfl) C 5 4 2 _ _ rfl rfl (mdHead lc lp pb st r ++ T) 121 h3d ([Value.int .i64 r.1, Value.int .i64 r.2.1]) rfl (by intro j hj; match j, hj with | 0, _ | 1, _ => rfl) hfit (by intro v hv; simp at hv; rcases hv with rfl | rfl <;> rfl) ?_
  intro w4 hg4 ho4
  simp only [Act.put]
  refine hK.out _ _ trivial (fun _ => ?_)
  clear hK K
  refine wpAnyH_done (by kernel_rfl) ?_ _
  have hg5 : w4.heap[C]? = some (.cells (mdHead lc lp pb st (r.1, r.1, r.2.1, r.2.2.2) ++ T).toArray 121 (0, 0)) := hg4
  have hon : Only [C] w w4 := ⟨ho4.os, ho4.tape, ho4.output, ho4.size, ho4.block⟩
  have hm4 : ModAt w4 C L lc lp pb st (r.1, r.1, r.2.1, r.2.2.2) P := HM.out.newHead HT.out hg5 (hon.block L HM.out.llt (by simp; exact fun e => HM.out.ne e.symm))
  obtain ⟨_, _, _, _, c4, _⟩ := hm4.cells
  have f4 := hm4.frozenC 4
  have HM4 := Lib.hid hm4
  have HON := Lib.hid hon
  clear h3d hfit hg4 ho4 hg5 hon hm4 q1 q2 hwr
  go_wp2_with fail
  refine bodyPost_ret_by (results_none rfl _ _ _) rfl ⟨rfl, ?_, ?_⟩
  · exact HM4.out.setHead (k := 4) (st' := st) (r' := (d, r.1, r.2.1, r.2.2.2)) (by decide) rfl
  · exact HON.out.setCell (p := ⟨C, 4, none⟩) (.inl (by simp)) _
set_option maxRecDepth 100000 in
set_option maxHeartbeats 1000000 in
theorem front_3 {C L lc lp pb st : Nat} {r : R4} {P : Nat → Nat} {w : World} (hM : ModAt w C L lc lp pb st r P) (d : Int) : Calls Try.prog 102 #[PF C, .int .i64 3, .int .i64 d] w (FrontDone C L lc lp pb st (d, r.1, r.2.1, r.2.2.1) P w) := by
  obtain ⟨T, hT, hTl⟩ := hM.box
  have HT := Lib.hid hT
  have HTL := Lib.hid hTl
  have HM := Lib.hid hM
  have q1 : ∀ w, (Instr.sliceAt 103 (.pointer (some ⟨C, 4, none⟩)) (some (.int .i64 1)) (some (.int .i64 4)) none).run Try.prog w = .ok (.slice (some ⟨C, 5, none⟩) 3 3) w := fun w => cut4lhC C 3 (by decide) w
  have q2 : ∀ w, (Instr.sliceAt 103 (.pointer (some ⟨C, 4, none⟩)) none (some (.int .i64 3)) none).run Try.prog w = .ok (.slice (some ⟨C, 4, none⟩) 3 4) w := fun w => cut4hC C 3 (by decide) w
  have hwr : IntKind.i64.wrap 4 = 4 := by decide
  have h3d : w.drew.heap[C]? = some (.cells (mdHead lc lp pb st r ++ T).toArray 121 (0, 0)) := hT
  have hlen : (mdHead lc lp pb st r ++ T).length = 2061 := by simp [hTl]
  have hfit : 5 + 3 ≤ (mdHead lc lp pb st r ++ T).length := by omega
  clear hM hT hTl hlen
  go_enter Try.func102, Try.ntmps102
  go_upto_region 0 with fail
  refine wp_region_held_drew (S := fun _ => True) (by kernel_rfl) trivial (fun hS => ?_)
  refine tk 0 (v := ?vfr334) ?yfr334 hS ?_
  case yfr334 =>
    intro w hSw
    go_simp; all_goals (with_reducible rfl)
  simp only [Act.put, List.setIfInBounds_toArray, List.set_cons_zero, List.set_cons_succ]
  refine tk 1 (v := ?vfr335) ?yfr335 hS ?_
  case yfr335 =>
    intro w hSw
    go_simp; all_goals (with_reducible rfl)
  simp only [Act.put, List.setIfInBounds_toArray, List.set_cons_zero, List.set_cons_succ]
  refine tk 2 (v := ?vfr336) ?yfr336 hS ?_
  case yfr336 =>
    intro w hSw
    go_simp; all_goals (with_reducible rfl)
  simp only [Act.put, List.setIfInBounds_toArray, List.set_cons_zero, List.set_cons_succ]
  refine tk 3 (v := ?vfr337) ?yfr337 hS ?_
  case yfr337 =>
    intro w hSw
    go_simp; all_goals (with_reducible rfl)
  simp only [Act.put, List.setIfInBounds_toArray, List.set_cons_zero, List.set_cons_succ]
  refine tk 4 (v := ?vfr338) ?yfr338 hS ?_
  case yfr338 =>
    intro w hSw
    go_simp; all_goals (with_reducible rfl)
  simp only [Act.put, List.setIfInBounds_toArray, List.set_cons_zero, List.set_cons_succ]
  refine tk 5 (v := ?vfr339) ?yfr339 hS ?_
  case yfr339 =>
    intro w hSw
    go_simp; all_goals (with_reducible rfl)
  simp only [Act.put, List.setIfInBounds_toArray, List.set_cons_zero, List.set_cons_succ]
  refine tk 6 (v := ?vfr340) ?yfr340 hS ?_
  case yfr340 =>
    intro w hSw
    go_simp; all_goals (with_reducible rfl)
  simp only [Act.put, List.setIfInBounds_toArray, List.set_cons_zero, List.set_cons_succ]
  refine tk 7 (v := ?vfr341) ?yfr341 hS ?_
  case yfr341 =>
    intro w hSw
    go_simp; all_goals (with_reducible rfl)
  simp only [Act.put, List.setIfInBounds_toArray, List.set_cons_zero, List.set_cons_succ]
  refine tk 8 (v := ?vfr342) ?yfr342 hS ?_
  case yfr342 =>
    intro w hSw
    go_simp; all_goals (with_reducible rfl)
  simp only [Act.put, List.setIfInBounds_toArray, List.set_cons_zero, List.set_cons_succ]
  refine tk 9 (v := ?vfr343) ?yfr343 hS ?_
  case yfr343 =>
    intro w hSw
    go_simp; all_goals (with_reducible rfl)
  simp only [Act.put, List.setIfInBounds_toArray, List.set_cons_zero, List.set_cons_succ]
  refine tk 10 (v := ?vfr344) ?yfr344 hS ?_
  case yfr344 =>
    intro w hSw
    go_simp; all_goals (with_reducible rfl)
  simp only [Act.put, List.setIfInBounds_toArray, List.set_cons_zero, List.set_cons_succ]
  refine wpAnyH_ready (rs := [11]) (by kernel_rfl) (by simp) ?_
  refine (AllReadyH.cons (o := { dst := some 17, op := Op.call { callee := Callee.builtin Builtin.copy, args := #[Operand.tmp 11, Operand.tmp 16], argTypes := #[91, 91] }, type := 3, pos := "model.go:177", after := #[{ on := 5, ground := Ground.data }, { on := 10, ground := Ground.data }], guard := none }) rfl (fun K hK => ?_) AllReadyH.nil)
  refine step_copy_only rfl (.tmp 11) (.tmp 16) 91 91 rfl 3 Try.underlying91 (by kernel_rfl) C 5 4 3 _ _ rfl rfl (mdHead lc lp pb st r ++ T) 121 h3d ([Value.int .i64 r.1, Value.int .i64 r.2.1, Value.int .i64 r.2.2.1]) rfl (by intro j hj; match j, hj with | 0, _ | 1, _ | 2, _ => rfl) hfit (by intro v hv; simp at hv; rcases hv with rfl | rfl | rfl <;> rfl) ?_
  intro w4 hg4 ho4
  simp only [Act.put]
  refine hK.out _ _ trivial (fun _ => ?_)
  clear hK K
  refine wpAnyH_done (by kernel_rfl) ?_ _
  have hg5 : w4.heap[C]? = some (.cells (mdHead lc lp pb st (r.1, r.1, r.2.1, r.2.2.1) ++ T).toArray 121 (0, 0)) := hg4
  have hon : Only [C] w w4 := ⟨ho4.os, ho4.tape, ho4.output, ho4.size, ho4.block⟩
  have hm4 : ModAt w4 C L lc lp pb st (r.1, r.1, r.2.1, r.2.2.1) P := HM.out.newHead HT.out hg5 (hon.block L HM.out.llt (by simp; exact fun e => HM.out.ne e.symm))
  obtain ⟨_, _, _, _, c4, _⟩ := hm4.cells
  have f4 := hm4.frozenC 4
  have HM4 := Lib.hid hm4
  have HON := Lib.hid hon
  clear h3d hfit hg4 ho4 hg5 hon hm4 q1 q2 hwr
  go_wp2_with fail
  refine bodyPost_ret_by (results_none rfl _ _ _) rfl ⟨rfl, ?_, ?_⟩
  · exact HM4.out.setHead (k := 4) (st' := st) (r' := (d, r.1, r.2.1, r.2.2.1)) (by decide) rfl
  · exact HON.out.setCell (p := ⟨C, 4, none⟩) (.inl (by simp)) _
theorem front_any {C L lc lp pb st : Nat} {r : R4} {P : Nat → Nat} {w : World} (hM : ModAt w C L lc lp pb st r P) (n : Nat) (hn : n ≤ 3) (d : Int) : Calls Try.prog 102 #[PF C, .int .i64 (n : Nat), .int .i64 d] w (FrontDone C L lc lp pb st (frontR r n d) P w) := by
  rcases (by omega : n = 0 ∨ n = 1 ∨ n = 2 ∨ n = 3) with rfl | rfl | rfl | rfl
  · exact front_0 hM d
  · exact front_1 hM d
  · exact front_2 hM d
  · exact front_3 hM d
end Go.Proofs.Ytkckjjchfccdjaa
