/- The law's As (records in the reference's type), the reference's Same on equal records. -/
import Derived.Test.YthfmhjpmcapcbaaDoorIxRGet
namespace Go.Proofs.YthfmhjpmcapcbaaDoor
open Go.RowKit

theorem step_append_rec {ts t : TypeId} {z : Value} {bytes : Nat} (hE : Elem2 ts t z bytes) {ops : Array Oper} {o : Oper} {a : Act} {K : Act → World → Prop} {Q : Exit → Act → World → Prop} (hgd : o.guard = none) (s x : Operand)
    (ho : o.op = .call { callee := .builtin .append, args := #[s, x], argTypes := #[ts, ts] })
    (base : Nat) (w : World) (v : Value) (l : List (Int × Int)) (hs : a.eval s = v) (hown : OwnR t base w v l) (hh c : Nat) (r : Int × Int) (hx : a.eval x = .slice (some ⟨hh, 0, none⟩) 1 c)
    (h0 : w.cell? ⟨hh, 0, none⟩ = some (.int .i64 r.1)) (h1 : w.cell? ⟨hh, 1, none⟩ = some (.int .i64 r.2)) (hsz : (l.length + 1) * bytes ≤ 140737488355328) (h63 : l.length + 1 ≤ 140737488355328) (hbase : base ≤ w.heap.size)
    (h : ∀ v' w', OwnR t base w' v' (l ++ [r]) → w.grownBy w' v.ownBlock → K (a.put o.dst v') w') : if Region.wanted o (yielded ops a.tmps) = true then Oper.wp Tryd.prog o a w K Q else K (a.put o.dst undef) w := by
  rw [if_pos (by simp [Region.wanted, hgd])]
  obtain ⟨v', w', hr, h2, h3⟩ := run_append_rec hE base o.type w v l hown hh c r h0 h1 hsz h63 hbase
  unfold Oper.wp execOp
  simp only [ho, resolve, invoke, builtin, Sem.run_bind, Sem.run_pure, Result.andThen_ok, List.map_toArray, List.map_cons, List.map_nil, hs, hx, hr]
  exact h v' w' h2 h3
/-- Records that may be read. -/
def Recs (w : World) (A : Option Addr) (l : List (Int × Int)) : Prop :=
  l = [] ∨ ∃ b off, A = some ⟨b, off, none⟩ ∧ b < w.heap.size ∧ ∀ k (h : k < l.length), w.cell? ⟨b, off + k * 2, none⟩ = some (.int .i64 l[k].1) ∧ w.cell? ⟨b, off + k * 2 + 1, none⟩ = some (.int .i64 l[k].2)
theorem Recs.below {w w' : World} {A : Option Addr} {l : List (Int × Int)} (h : Recs w A l) (hb : Below w.heap.size w w') : Recs w' A l := by
  rcases h with h | ⟨b, off, h1, h2, h3⟩
  · exact .inl h
  · exact .inr ⟨b, off, h1, Nat.lt_of_lt_of_le h2 hb.size, fun k h => ⟨(hb.cell (p := ⟨b, off + k * 2, none⟩) h2).trans (h3 k h).1, (hb.cell (p := ⟨b, off + k * 2 + 1, none⟩) h2).trans (h3 k h).2⟩⟩
theorem Recs.addr {w : World} {A : Option Addr} {l : List (Int × Int)} (h : Recs w A l) (h0 : 0 < l.length) : ∃ b off, A = some ⟨b, off, none⟩ ∧ b < w.heap.size ∧ ∀ k (h : k < l.length), w.cell? ⟨b, off + k * 2, none⟩ = some (.int .i64 l[k].1) ∧ w.cell? ⟨b, off + k * 2 + 1, none⟩ = some (.int .i64 l[k].2) := by
  rcases h with rfl | h
  · simp at h0
  · exact h
theorem OwnR.read {t : TypeId} {base : Nat} {w : World} {v : Value} {l : List (Int × Int)} (h : OwnR t base w v l) : ∃ A c, v = .slice A l.length c ∧ l.length ≤ c ∧ c ≤ 9223372036854775807 ∧ Recs w A l := by
  rcases h with ⟨h1, ⟨h2, h3⟩ | ⟨g, cap, cur, h2, h3, h4, h5, h6, h7⟩⟩
  · have e : l = [] := List.eq_nil_of_length_eq_zero (by have := recCells_length l; simp_all)
    subst e
    exact ⟨none, 0, h2, by simp, by omega, .inl rfl⟩
  · refine ⟨_, cap, h2, h5, by unfold maxLen at h6; exact h6, .inr ⟨g, 0, rfl, ?_, fun k hk => ?_⟩⟩
    · rcases Nat.lt_or_ge g w.heap.size with h | h
      · exact h
      · rw [Array.getElem?_eq_none h] at h4; cases h4
    · have e1 : ∀ j, j < l.length * 2 → cur[j]? = (recCells l)[j]? := fun j hj => by
        have h9 := congrArg (fun x : List Value => x[j]?) h7.2
        simpa only [List.getElem?_take, hj, if_true, Array.getElem?_toList] using h9
      have hg := recCells_get l k hk
      rw [Nat.mul_comm] at hg
      rw [cell_of_row w g _ cur _ _ h4, cell_of_row w g _ cur _ _ h4, Nat.zero_add]
      exact ⟨(e1 (k * 2) (by omega)).trans hg.1, (e1 (k * 2 + 1) (by omega)).trans hg.2⟩
theorem lit2_0 (w : World) (a b : Value) (t : TypeId) : (w.alloc (.cells #[a, b] t)).cell? ⟨w.heap.size, 0, none⟩ = some a := by simp
theorem lit2_1 (w : World) (a b : Value) (t : TypeId) : (w.alloc (.cells #[a, b] t)).cell? ⟨w.heap.size, 1, none⟩ = some b := by simp

theorem same_any (A B : Option Addr) (l : List (Int × Int)) (c d : Nat) (w : World) (hA : Recs w A l) (hB : Recs w B l) (hl : l.length ≤ 1000000) :
    Calls Tryd.prog 11 #[.slice A l.length c, .slice B l.length d] w fun e w' => e = .returned (.bool true) ∧ Below w.heap.size w w' := by
  have hli : (l.length : Int) ≤ 1000000 := by omega
  go_enter Tryd.func11, Tryd.ntmps11
  go_wp2_with fail
  go_loopw [5] (fun i wr => ∃ j : Nat, j ≤ l.length ∧ i = .int .i64 (j : Nat) ∧ Hid (Below w.heap.size w wr)) (fun i _ => l.length - (intOf i).toNat)
  case atStart => exact ⟨0, by omega, rfl, Lib.hid (Below.refl _ _)⟩
  case round =>
    obtain ⟨j, hj, rfl, HBR⟩ := hrel
    by_cases hjl : j < l.length
    · have hji : (j : Int) < (l.length : Int) := by omega
      obtain ⟨b, off, rfl, hb, hcl⟩ := hA.addr (by omega)
      obtain ⟨b2, off2, rfl, hb2, hcl2⟩ := hB.addr (by omega)
      have hcj := hcl j hjl
      have hcj2 := hcl2 j hjl
      generalize l[j] = r at *
      obtain ⟨n1, n2⟩ := r
      have HC1 := Lib.hid (fun (w' : World) (h : Below w.heap.size w w') => (show w'.cell? ⟨b, off + j * 2, none⟩ = some (.int .i64 n1) ∧ w'.cell? ⟨b, off + j * 2 + 1, none⟩ = some (.int .i64 n2) from ⟨(h.cell (p := ⟨b, off + j * 2, none⟩) hb).trans hcj.1, (h.cell (p := ⟨b, off + j * 2 + 1, none⟩) hb).trans hcj.2⟩))
      have HC2 := Lib.hid (fun (w' : World) (h : Below w.heap.size w w') => (show w'.cell? ⟨b2, off2 + j * 2, none⟩ = some (.int .i64 n1) ∧ w'.cell? ⟨b2, off2 + j * 2 + 1, none⟩ = some (.int .i64 n2) from ⟨(h.cell (p := ⟨b2, off2 + j * 2, none⟩) hb2).trans hcj2.1, (h.cell (p := ⟨b2, off2 + j * 2 + 1, none⟩) hb2).trans hcj2.2⟩))
      have hdr : Below w.heap.size w wr.drew := HBR.out.trans ((below_drew wr).mono HBR.out.size)
      clear hcl hcl2 hcj hcj2
      go_wp2_with fail
      refine wp_region_held_drew (S := fun w' => Below w.heap.size w w') (by kernel_rfl) hdr (fun hS => ?_)
      refine wpAnyH_take (i := 0) (oi := { dst := some 17, op := Op.move (Operand.tmp 0), type := 28, pos := "ref.go:91", after := #[], guard := none }) (v := ?vsm13) rfl (by kernel_rfl) (by kernel_rfl) (by kernel_rfl) (fun _ _ _ h => h) (Or.inl ⟨by rfl, ?ysm13⟩) hS ?_
      case ysm13 =>
        intro w hSw
        go_simp; all_goals (with_reducible rfl)
      simp only [Act.put, List.setIfInBounds_toArray, List.set_cons_zero, List.set_cons_succ]
      refine wpAnyH_take (i := 1) (oi := { dst := some 18, op := Op.move (Operand.tmp 5), type := 3, pos := "ref.go:91", after := #[], guard := none }) (v := ?vsm14) rfl (by kernel_rfl) (by kernel_rfl) (by kernel_rfl) (fun _ _ _ h => h) (Or.inl ⟨by rfl, ?ysm14⟩) hS ?_
      case ysm14 =>
        intro w hSw
        go_simp; all_goals (with_reducible rfl)
      simp only [Act.put, List.setIfInBounds_toArray, List.set_cons_zero, List.set_cons_succ]
      refine wpAnyH_take (i := 2) (oi := { dst := some 19, op := Op.indexAddr 28 (Operand.tmp 17) (Operand.tmp 18), type := 0, pos := "ref.go:91", after := #[{ on := 0, ground := Ground.data }, { on := 1, ground := Ground.data }], guard := none }) (v := ?vsm15) rfl (by kernel_rfl) (by kernel_rfl) (by kernel_rfl) (fun _ _ _ h => h) (Or.inl ⟨by rfl, ?ysm15⟩) hS ?_
      case ysm15 =>
        intro w hSw
        go_simp; all_goals (with_reducible rfl)
      simp only [Act.put, List.setIfInBounds_toArray, List.set_cons_zero, List.set_cons_succ]
      refine wpAnyH_take (i := 3) (oi := { dst := some 20, op := Op.load 32 (Operand.tmp 19), type := 32, pos := "ref.go:91", after := #[{ on := 2, ground := Ground.data }], guard := none }) (v := ?vsm16) rfl (by kernel_rfl) (by kernel_rfl) (by kernel_rfl) (fun _ _ _ h => h) (Or.inl ⟨by rfl, ?ysm16⟩) hS ?_
      case ysm16 =>
        intro w hSw
        obtain ⟨k1, k2⟩ := HC1.out w hSw
        go_simp; all_goals (with_reducible rfl)
      simp only [Act.put, List.setIfInBounds_toArray, List.set_cons_zero, List.set_cons_succ]
      refine wpAnyH_take (i := 4) (oi := { dst := some 21, op := Op.move (Operand.tmp 1), type := 28, pos := "ref.go:91", after := #[], guard := none }) (v := ?vsm17) rfl (by kernel_rfl) (by kernel_rfl) (by kernel_rfl) (fun _ _ _ h => h) (Or.inl ⟨by rfl, ?ysm17⟩) hS ?_
      case ysm17 =>
        intro w hSw
        go_simp; all_goals (with_reducible rfl)
      simp only [Act.put, List.setIfInBounds_toArray, List.set_cons_zero, List.set_cons_succ]
      refine wpAnyH_take (i := 5) (oi := { dst := some 22, op := Op.move (Operand.tmp 5), type := 3, pos := "ref.go:91", after := #[], guard := none }) (v := ?vsm18) rfl (by kernel_rfl) (by kernel_rfl) (by kernel_rfl) (fun _ _ _ h => h) (Or.inl ⟨by rfl, ?ysm18⟩) hS ?_
      case ysm18 =>
        intro w hSw
        go_simp; all_goals (with_reducible rfl)
      simp only [Act.put, List.setIfInBounds_toArray, List.set_cons_zero, List.set_cons_succ]
      refine wpAnyH_take (i := 6) (oi := { dst := some 23, op := Op.indexAddr 28 (Operand.tmp 21) (Operand.tmp 22), type := 0, pos := "ref.go:91", after := #[{ on := 4, ground := Ground.data }, { on := 5, ground := Ground.data }], guard := none }) (v := ?vsm19) rfl (by kernel_rfl) (by kernel_rfl) (by kernel_rfl) (fun _ _ _ h => h) (Or.inl ⟨by rfl, ?ysm19⟩) hS ?_
      case ysm19 =>
        intro w hSw
        go_simp; all_goals (with_reducible rfl)
      simp only [Act.put, List.setIfInBounds_toArray, List.set_cons_zero, List.set_cons_succ]
      refine wpAnyH_take (i := 7) (oi := { dst := some 24, op := Op.load 32 (Operand.tmp 23), type := 32, pos := "ref.go:91", after := #[{ on := 6, ground := Ground.data }], guard := none }) (v := ?vsm20) rfl (by kernel_rfl) (by kernel_rfl) (by kernel_rfl) (fun _ _ _ h => h) (Or.inl ⟨by rfl, ?ysm20⟩) hS ?_
      case ysm20 =>
        intro w hSw
        obtain ⟨k1, k2⟩ := HC2.out w hSw
        go_simp; all_goals (with_reducible rfl)
      simp only [Act.put, List.setIfInBounds_toArray, List.set_cons_zero, List.set_cons_succ]
      refine wpAnyH_take (i := 8) (oi := { dst := some 25, op := Op.binOp BinOp.neq 32 (Operand.tmp 20) (Operand.tmp 24) 32, type := 4, pos := "ref.go:91", after := #[{ on := 3, ground := Ground.data }, { on := 7, ground := Ground.data }], guard := none }) (v := ?vsm21) rfl (by kernel_rfl) (by kernel_rfl) (by kernel_rfl) (fun _ _ _ h => h) (Or.inl ⟨by rfl, ?ysm21⟩) hS ?_
      case ysm21 =>
        intro w hSw
        go_simp; all_goals (with_reducible rfl)
      simp only [Act.put, List.setIfInBounds_toArray, List.set_cons_zero, List.set_cons_succ]
      refine wpAnyH_done (by kernel_rfl) ?_ _
      go_wp2_with fail
      exact ⟨⟨j + 1, by omega, by go_num, Lib.hid (HBR.out.trans ((below_drew wr).mono HBR.out.size))⟩, by simp [intOf]; omega⟩
    · obtain rfl : j = l.length := by omega
      go_wp2_with fail
      go_ret
      exact ⟨rfl, HBR.out⟩

set_option maxRecDepth 100000 in
set_option maxHeartbeats 2000000 in
theorem as_any (A : Option Addr) (l : List (Int × Int)) (c : Nat) (w : World) (hB : Recs w A l) (hl : l.length ≤ 1000000) :
    Calls Tryd.prog 7 #[.slice A l.length c] w fun e w' => ∃ v, e = .returned v ∧ OwnR 32 w.heap.size w' v l ∧ Below w.heap.size w w' := by
  have hli : (l.length : Int) ≤ 1000000 := by omega
  go_enter Tryd.func7, Tryd.ntmps7
  go_wp2_with fail
  go_loopw [3, 4] (fun lv i wr => ∃ j : Nat, j ≤ l.length ∧ i = .int .i64 (j : Nat) ∧ OwnR 32 w.heap.size wr lv (l.take j) ∧ Hid (Below w.heap.size w wr)) (fun _ i _ => l.length - (intOf i).toNat)
  case atStart => exact ⟨0, by omega, rfl, OwnR.nil _ _ _, Lib.hid (Below.refl _ _)⟩
  case round =>
    obtain ⟨j, hj, rfl, hown, HBR⟩ := hrel
    by_cases hjl : j < l.length
    · have hji : (j : Int) < (l.length : Int) := by omega
      obtain ⟨b, off, rfl, hb, hcl⟩ := hB.addr (by omega)
      have hcj := hcl j hjl
      have hnx : l.take (j + 1) = l.take j ++ [l[j]] := by rw [List.take_succ_eq_append_getElem hjl]
      generalize l[j] = r at *
      obtain ⟨n1, n2⟩ := r
      have HCL := Lib.hid (fun (w' : World) (h : Below w.heap.size w w') => (show w'.cell? ⟨b, off + j * 2, none⟩ = some (.int .i64 n1) ∧ w'.cell? ⟨b, off + j * 2 + 1, none⟩ = some (.int .i64 n2) from ⟨(h.cell (p := ⟨b, off + j * 2, none⟩) hb).trans hcj.1, (h.cell (p := ⟨b, off + j * 2 + 1, none⟩) hb).trans hcj.2⟩))
      have HJL := Lib.hid hji
      have HLC := Lib.hid hli
      have hdw : Below wr.heap.size wr wr.drew := below_drew wr
      have hdr : Below w.heap.size w wr.drew := HBR.out.trans (hdw.mono HBR.out.size)
      have HZ := Lib.hid HBR.out.size
      have HOW := Lib.hid ((hown.below hdw).alloc (.cells #[.int .i64 n1, .int .i64 n2] 32))
      clear hdw
      have HSZ : Hid (((l.take j).length + 1) * 16 ≤ 140737488355328 ∧ (l.take j).length + 1 ≤ 140737488355328 ∧ w.heap.size ≤ (wr.drew.alloc (.cells #[.int .i64 n1, .int .i64 n2] 32)).heap.size) := Lib.hid (by
        have := HZ.out; have h2 : wr.drew.heap.size = wr.heap.size := rfl
        simp only [List.length_take, World.size_alloc]; omega)
      clear hcl hcj hown
      go_wp2_with fail
      refine wp_region_held_drew (S := fun w' => Below w.heap.size w w') (by kernel_rfl) hdr (fun hS => ?_)
      refine wpAnyH_take (i := 0) (oi := { dst := some 11, op := Op.move (Operand.tmp 3), type := 28, pos := "law.go:22", after := #[], guard := none }) (v := ?vas1) rfl (by kernel_rfl) (by kernel_rfl) (by kernel_rfl) (fun _ _ _ h => h) (Or.inl ⟨by rfl, ?yas1⟩) hS ?_
      case yas1 =>
        intro w hSw
        go_simp; all_goals (with_reducible rfl)
      simp only [Act.put, List.setIfInBounds_toArray, List.set_cons_zero, List.set_cons_succ]
      refine wpAnyH_take (i := 1) (oi := { dst := some 12, op := Op.move (Operand.tmp 0), type := 22, pos := "law.go:22", after := #[], guard := none }) (v := ?vas2) rfl (by kernel_rfl) (by kernel_rfl) (by kernel_rfl) (fun _ _ _ h => h) (Or.inl ⟨by rfl, ?yas2⟩) hS ?_
      case yas2 =>
        intro w hSw
        go_simp; all_goals (with_reducible rfl)
      simp only [Act.put, List.setIfInBounds_toArray, List.set_cons_zero, List.set_cons_succ]
      refine wpAnyH_take (i := 2) (oi := { dst := some 13, op := Op.move (Operand.tmp 4), type := 3, pos := "law.go:22", after := #[], guard := none }) (v := ?vas3) rfl (by kernel_rfl) (by kernel_rfl) (by kernel_rfl) (fun _ _ _ h => h) (Or.inl ⟨by rfl, ?yas3⟩) hS ?_
      case yas3 =>
        intro w hSw
        go_simp; all_goals (with_reducible rfl)
      simp only [Act.put, List.setIfInBounds_toArray, List.set_cons_zero, List.set_cons_succ]
      refine wpAnyH_take (i := 3) (oi := { dst := some 14, op := Op.indexAddr 22 (Operand.tmp 12) (Operand.tmp 13), type := 0, pos := "law.go:22", after := #[{ on := 1, ground := Ground.data }, { on := 2, ground := Ground.data }], guard := none }) (v := ?vas4) rfl (by kernel_rfl) (by kernel_rfl) (by kernel_rfl) (fun _ _ _ h => h) (Or.inl ⟨by rfl, ?yas4⟩) hS ?_
      case yas4 =>
        intro w hSw
        obtain ⟨k1, k2⟩ := HCL.out w hSw
        have hjl := HJL.out
        have hlc := HLC.out
        go_simp; all_goals (with_reducible rfl)
      simp only [Act.put, List.setIfInBounds_toArray, List.set_cons_zero, List.set_cons_succ]
      refine wpAnyH_take (i := 4) (oi := { dst := some 15, op := Op.fieldAddr 44 (Operand.tmp 14) 0, type := 0, pos := "law.go:22", after := #[{ on := 3, ground := Ground.data }], guard := none }) (v := ?vas5) rfl (by kernel_rfl) (by kernel_rfl) (by kernel_rfl) (fun _ _ _ h => h) (Or.inl ⟨by rfl, ?yas5⟩) hS ?_
      case yas5 =>
        intro w hSw
        go_simp; all_goals (with_reducible rfl)
      simp only [Act.put, List.setIfInBounds_toArray, List.set_cons_zero, List.set_cons_succ]
      refine wpAnyH_take (i := 5) (oi := { dst := some 16, op := Op.load 2 (Operand.tmp 15), type := 2, pos := "law.go:22", after := #[{ on := 4, ground := Ground.data }], guard := none }) (v := ?vas6) rfl (by kernel_rfl) (by kernel_rfl) (by kernel_rfl) (fun _ _ _ h => h) (Or.inl ⟨by rfl, ?yas6⟩) hS ?_
      case yas6 =>
        intro w hSw
        obtain ⟨k1, k2⟩ := HCL.out w hSw
        have hjl := HJL.out
        have hlc := HLC.out
        go_simp; all_goals (with_reducible rfl)
      simp only [Act.put, List.setIfInBounds_toArray, List.set_cons_zero, List.set_cons_succ]
      refine wpAnyH_take (i := 6) (oi := { dst := some 17, op := Op.move (Operand.tmp 0), type := 22, pos := "law.go:22", after := #[], guard := none }) (v := ?vas7) rfl (by kernel_rfl) (by kernel_rfl) (by kernel_rfl) (fun _ _ _ h => h) (Or.inl ⟨by rfl, ?yas7⟩) hS ?_
      case yas7 =>
        intro w hSw
        go_simp; all_goals (with_reducible rfl)
      simp only [Act.put, List.setIfInBounds_toArray, List.set_cons_zero, List.set_cons_succ]
      refine wpAnyH_take (i := 7) (oi := { dst := some 18, op := Op.move (Operand.tmp 4), type := 3, pos := "law.go:22", after := #[], guard := none }) (v := ?vas8) rfl (by kernel_rfl) (by kernel_rfl) (by kernel_rfl) (fun _ _ _ h => h) (Or.inl ⟨by rfl, ?yas8⟩) hS ?_
      case yas8 =>
        intro w hSw
        go_simp; all_goals (with_reducible rfl)
      simp only [Act.put, List.setIfInBounds_toArray, List.set_cons_zero, List.set_cons_succ]
      refine wpAnyH_take (i := 8) (oi := { dst := some 19, op := Op.indexAddr 22 (Operand.tmp 17) (Operand.tmp 18), type := 0, pos := "law.go:22", after := #[{ on := 6, ground := Ground.data }, { on := 7, ground := Ground.data }], guard := none }) (v := ?vas9) rfl (by kernel_rfl) (by kernel_rfl) (by kernel_rfl) (fun _ _ _ h => h) (Or.inl ⟨by rfl, ?yas9⟩) hS ?_
      case yas9 =>
        intro w hSw
        obtain ⟨k1, k2⟩ := HCL.out w hSw
        have hjl := HJL.out
        have hlc := HLC.out
        go_simp; all_goals (with_reducible rfl)
      simp only [Act.put, List.setIfInBounds_toArray, List.set_cons_zero, List.set_cons_succ]
      refine wpAnyH_take (i := 9) (oi := { dst := some 20, op := Op.fieldAddr 44 (Operand.tmp 19) 1, type := 0, pos := "law.go:22", after := #[{ on := 8, ground := Ground.data }], guard := none }) (v := ?vas10) rfl (by kernel_rfl) (by kernel_rfl) (by kernel_rfl) (fun _ _ _ h => h) (Or.inl ⟨by rfl, ?yas10⟩) hS ?_
      case yas10 =>
        intro w hSw
        go_simp; all_goals (with_reducible rfl)
      simp only [Act.put, List.setIfInBounds_toArray, List.set_cons_zero, List.set_cons_succ]
      refine wpAnyH_take (i := 10) (oi := { dst := some 21, op := Op.load 2 (Operand.tmp 20), type := 2, pos := "law.go:22", after := #[{ on := 9, ground := Ground.data }], guard := none }) (v := ?vas11) rfl (by kernel_rfl) (by kernel_rfl) (by kernel_rfl) (fun _ _ _ h => h) (Or.inl ⟨by rfl, ?yas11⟩) hS ?_
      case yas11 =>
        intro w hSw
        obtain ⟨k1, k2⟩ := HCL.out w hSw
        have hjl := HJL.out
        have hlc := HLC.out
        go_simp; all_goals (with_reducible rfl)
      simp only [Act.put, List.setIfInBounds_toArray, List.set_cons_zero, List.set_cons_succ]
      refine wpAnyH_take (i := 11) (oi := { dst := some 22, op := Op.build 32 #[(0, Operand.tmp 16), (1, Operand.tmp 21)], type := 32, pos := "law.go:22", after := #[{ on := 5, ground := Ground.data }, { on := 10, ground := Ground.data }], guard := none }) (v := ?vas12) rfl (by kernel_rfl) (by kernel_rfl) (by kernel_rfl) (fun _ _ _ h => h) (Or.inl ⟨by rfl, ?yas12⟩) hS ?_
      case yas12 =>
        intro w hSw
        go_simp; all_goals (with_reducible rfl)
      simp only [Act.put, List.setIfInBounds_toArray, List.set_cons_zero, List.set_cons_succ]
      refine wpAnyH_ready (rs := [12]) (by kernel_rfl) (by simp) ?_
      refine (AllReadyH.cons (o := { dst := some 23, op := Op.buildSlice 28 1 #[(0, Operand.tmp 22)], type := 28, pos := "law.go:22", after := #[{ on := 11, ground := Ground.data }], guard := none }) rfl (fun K hK => ?_) AllReadyH.nil)
      go_simp
      have gA : Below w.heap.size w (wr.drew.alloc (.cells #[.int .i64 n1, .int .i64 n2] 32)) := hdr.alloc HZ.out _
      refine hK.out _ _ gA (fun _ => ?_)
      clear hK K
      refine wpAnyH_ready (rs := [13]) (by kernel_rfl) (by simp) ?_
      refine (AllReadyH.cons (o := { dst := some 24, op := Op.call { callee := Callee.builtin Builtin.append, args := #[Operand.tmp 11, Operand.tmp 23], argTypes := #[28, 28] }, type := 28, pos := "law.go:22", after := #[{ on := 0, ground := Ground.data }, { on := 12, ground := Ground.data }], guard := none }) rfl (fun K hK => ?_) AllReadyH.nil)
      refine step_append_rec elemRRec rfl (.tmp 11) (.tmp 23) rfl w.heap.size (wr.drew.alloc (.cells #[.int .i64 n1, .int .i64 n2] 32)) u3 (l.take j) rfl HOW.out wr.heap.size 1 (n1, n2) rfl (lit2_0 wr.drew _ _ _) (lit2_1 wr.drew _ _ _) HSZ.out.1 HSZ.out.2.1 HSZ.out.2.2 ?_
      intro v2 w3 hown3 hg3
      have g3 : Below w.heap.size w w3 := below_grown gA hg3 HSZ.out.2.2 (fun g e => (HOW.out.lt g e).1)
      simp only [Act.put, List.setIfInBounds_toArray, List.set_cons_zero, List.set_cons_succ]
      refine hK.out _ _ g3 (fun _ => ?_)
      clear hK K
      refine wpAnyH_ready (rs := [14]) (by kernel_rfl) (by simp) ?_
      refine (AllReadyH.cons (o := { dst := some 3, op := Op.assign (Operand.tmp 24), type := 28, pos := "law.go:22", after := #[{ on := 13, ground := Ground.data }, { on := 13, ground := Ground.chain }, { on := 0, ground := Ground.phase }, { on := 1, ground := Ground.phase }, { on := 2, ground := Ground.phase }, { on := 3, ground := Ground.phase }, { on := 4, ground := Ground.phase }, { on := 5, ground := Ground.phase }, { on := 6, ground := Ground.phase }, { on := 7, ground := Ground.phase }, { on := 8, ground := Ground.phase }, { on := 9, ground := Ground.phase }, { on := 10, ground := Ground.phase }, { on := 11, ground := Ground.phase }, { on := 12, ground := Ground.phase }, { on := 13, ground := Ground.phase }], guard := none }) rfl (fun K hK => ?_) AllReadyH.nil)
      go_simp
      refine hK.out _ _ g3 (fun _ => ?_)
      clear hK K
      refine wpAnyH_done (by kernel_rfl) ?_ _
      go_wp2_with fail
      exact ⟨⟨j + 1, by omega, by go_num, by rw [hnx]; exact hown3, Lib.hid g3⟩, by simp [intOf]; omega⟩
    · obtain rfl : j = l.length := by omega
      rw [List.take_length] at hown
      go_wp2_with fail
      go_ret
      exact ⟨_, rfl, hown, HBR.out⟩
end Go.Proofs.YthfmhjpmcapcbaaDoor
