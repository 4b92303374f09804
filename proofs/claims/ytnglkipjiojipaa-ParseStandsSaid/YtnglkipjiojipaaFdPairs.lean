/- The finder's pairPlaces. -/
import Derived.Test.YtnglkipjiojipaaFdPairMem
import Derived.Deep.RegionHeld3
import Derived.Deep.DeepCutAuto
namespace Go.Proofs.Ytnglkipjiojipaa
open Go.RowKit Go.Maps

theorem elem32 : Elem 44 21 (.int .i32 0) 4 := ⟨Try.underlying44, by kernel_rfl, rfl⟩
set_option maxRecDepth 100000 in
set_option maxHeartbeats 2000000 in
theorem pairPlaces_any (A : Option Addr) (l : List UInt8) (c n : Nat) (w : World) (hB : Bytes w A l) (hc : l.length ≤ c) (hl : l.length ≤ 100000) (hn : n = l.length - 1) :
    Calls Try.prog 14 #[.slice A l.length c] w fun e w' => e = .returned (.map (some w.heap.size)) ∧ PairsAt w' w.heap.size l n ∧ Below w.heap.size w w' := by
  have hci : (l.length : Int) ≤ (c : Int) := by omega
  have hli : (l.length : Int) ≤ 100000 := by omega
  have hni : (n : Int) ≤ 100000 := by omega
  have HBY := Lib.hid hB
  have HN := Lib.hid hn
  have hmm : ∀ w : World, (Instr.makeMap 43 none).run Try.prog w = .ok (.map (some w.heap.size)) (w.alloc (.map #[] 0)) := fun w => run_makeMap _ w
  clear hB hn hl hc
  go_enter Try.func14, Try.ntmps14
  go_wp2_with fail
  have HMP : Hid (PairsAt (w.alloc (.map #[] 0)) w.heap.size l 0) := Lib.hid (PairsAt.made w l)
  have HB1 : Hid (Below w.heap.size w (w.alloc (.map #[] 0))) := Lib.hid ((Below.refl _ _).alloc (Nat.le_refl _) _)
  clear hmm
  go_loopw [10] (fun i wr => ∃ k : Nat, k ≤ n ∧ i = .int .i64 (k : Nat) ∧ Hid (PairsAt wr w.heap.size l k) ∧ Hid (Below w.heap.size w wr)) (fun i _ => n - (intOf i).toNat)
  case atStart => exact ⟨0, by omega, rfl, HMP, HB1⟩
  case round =>
    obtain ⟨k, hk, rfl, HL, HB⟩ := hrel
    by_cases hkl : k < n
    · have hki : (k : Int) < (l.length : Int) - 1 := by have := HN.out; omega
      obtain ⟨b, off, rfl, hbl, hat⟩ := (HBY.out.below HB.out).addr (by omega)
      have hx0 := hat k (by omega)
      have hx1 := hat (k + 1) (by omega)
      have e0 := getD_of (d := l) (i := k) (by omega)
      have e1 := getD_of (d := l) (i := k + 1) (by omega)
      generalize l[k]'(by omega) = z0 at *
      generalize l[k + 1]'(by omega) = z1 at *
      obtain ⟨y1, hy1⟩ : ∃ y : Nat, k + 1 = y := ⟨_, rfl⟩
      rw [hy1] at hx1
      have k1 : (k : Int) + 1 = (y1 : Int) := by omega
      have l1 : (y1 : Int) < (l.length : Int) := by omega
      have l0 : (k : Int) < (l.length : Int) := by omega
      have HC := Lib.hid (fun (wx : World) (h : wx.heap[b]? = wr.heap[b]?) => (show wx.cell? ⟨b, off + k, none⟩ = some (.int .u8 (z0.toNat : Nat)) ∧ wx.cell? ⟨b, off + y1, none⟩ = some (.int .u8 (z1.toNat : Nat)) from by
        refine ⟨?_, ?_⟩
        · rw [← hx0]; unfold World.cell?; rw [h]
        · rw [← hx1]; unfold World.cell?; rw [h]))
      have v1 : IntKind.i64.wrap (y1 : Int) = (y1 : Int) := IntWalk.i64_in _ (by omega)
      have HE := Lib.hid (And.intro e0 e1)
      clear hat e0 e1 hy1 hx0 hx1
      go_wp2_with fail
      refine wp_region_held_drew (S := fun w2 => w2.heap[b]? = wr.drew.heap[b]?) (by kernel_rfl) rfl (fun hS => ?_)
      refine wpAnyH_take (i := 0) (oi := { dst := some 13, op := Op.move (Operand.tmp 0), type := 22, pos := "finder.go:114", after := #[], guard := none }) (v := ?vsf1) rfl (by kernel_rfl) (by kernel_rfl) (by kernel_rfl) (fun _ _ _ h => h) (Or.inl ⟨by rfl, ?ysf1⟩) hS ?_
      case ysf1 =>
        intro w hSw
        obtain ⟨i0, i1⟩ := HC.out w hSw
        go_simp; all_goals (with_reducible rfl)
      simp only [Act.put, List.setIfInBounds_toArray, List.set_cons_zero, List.set_cons_succ]
      refine wpAnyH_take (i := 1) (oi := { dst := some 14, op := Op.move (Operand.tmp 4), type := 3, pos := "finder.go:114", after := #[], guard := none }) (v := ?vsf2) rfl (by kernel_rfl) (by kernel_rfl) (by kernel_rfl) (fun _ _ _ h => h) (Or.inl ⟨by rfl, ?ysf2⟩) hS ?_
      case ysf2 =>
        intro w hSw
        obtain ⟨i0, i1⟩ := HC.out w hSw
        go_simp; all_goals (with_reducible rfl)
      simp only [Act.put, List.setIfInBounds_toArray, List.set_cons_zero, List.set_cons_succ]
      refine wpAnyH_take (i := 2) (oi := { dst := some 15, op := Op.indexAddr 22 (Operand.tmp 13) (Operand.tmp 14), type := 0, pos := "finder.go:114", after := #[{ on := 0, ground := Ground.data }, { on := 1, ground := Ground.data }], guard := none }) (v := ?vsf3) rfl (by kernel_rfl) (by kernel_rfl) (by kernel_rfl) (fun _ _ _ h => h) (Or.inl ⟨by rfl, ?ysf3⟩) hS ?_
      case ysf3 =>
        intro w hSw
        obtain ⟨i0, i1⟩ := HC.out w hSw
        go_simp; all_goals (with_reducible rfl)
      simp only [Act.put, List.setIfInBounds_toArray, List.set_cons_zero, List.set_cons_succ]
      refine wpAnyH_take (i := 3) (oi := { dst := some 16, op := Op.load 5 (Operand.tmp 15), type := 5, pos := "finder.go:114", after := #[{ on := 2, ground := Ground.data }], guard := none }) (v := ?vsf4) rfl (by kernel_rfl) (by kernel_rfl) (by kernel_rfl) (fun _ _ _ h => h) (Or.inl ⟨by rfl, ?ysf4⟩) hS ?_
      case ysf4 =>
        intro w hSw
        obtain ⟨i0, i1⟩ := HC.out w hSw
        go_simp; all_goals (with_reducible rfl)
      simp only [Act.put, List.setIfInBounds_toArray, List.set_cons_zero, List.set_cons_succ]
      refine wpAnyH_take (i := 4) (oi := { dst := some 17, op := Op.move (Operand.tmp 0), type := 22, pos := "finder.go:114", after := #[], guard := none }) (v := ?vsf5) rfl (by kernel_rfl) (by kernel_rfl) (by kernel_rfl) (fun _ _ _ h => h) (Or.inl ⟨by rfl, ?ysf5⟩) hS ?_
      case ysf5 =>
        intro w hSw
        obtain ⟨i0, i1⟩ := HC.out w hSw
        go_simp; all_goals (with_reducible rfl)
      simp only [Act.put, List.setIfInBounds_toArray, List.set_cons_zero, List.set_cons_succ]
      refine wpAnyH_take (i := 5) (oi := { dst := some 18, op := Op.move (Operand.tmp 4), type := 3, pos := "finder.go:114", after := #[], guard := none }) (v := ?vsf6) rfl (by kernel_rfl) (by kernel_rfl) (by kernel_rfl) (fun _ _ _ h => h) (Or.inl ⟨by rfl, ?ysf6⟩) hS ?_
      case ysf6 =>
        intro w hSw
        obtain ⟨i0, i1⟩ := HC.out w hSw
        go_simp; all_goals (with_reducible rfl)
      simp only [Act.put, List.setIfInBounds_toArray, List.set_cons_zero, List.set_cons_succ]
      refine wpAnyH_take (i := 6) (oi := { dst := some 19, op := Op.binOp BinOp.add 3 (Operand.tmp 18) (Operand.const (Value.int IntKind.i64 1)) 3, type := 3, pos := "finder.go:114", after := #[{ on := 5, ground := Ground.data }], guard := none }) (v := ?vsf7) rfl (by kernel_rfl) (by kernel_rfl) (by kernel_rfl) (fun _ _ _ h => h) (Or.inl ⟨by rfl, ?ysf7⟩) hS ?_
      case ysf7 =>
        intro w hSw
        obtain ⟨i0, i1⟩ := HC.out w hSw
        go_simp; all_goals (with_reducible rfl)
      simp only [Act.put, List.setIfInBounds_toArray, List.set_cons_zero, List.set_cons_succ]
      refine wpAnyH_take (i := 7) (oi := { dst := some 20, op := Op.indexAddr 22 (Operand.tmp 17) (Operand.tmp 19), type := 0, pos := "finder.go:114", after := #[{ on := 4, ground := Ground.data }, { on := 6, ground := Ground.data }], guard := none }) (v := ?vsf8) rfl (by kernel_rfl) (by kernel_rfl) (by kernel_rfl) (fun _ _ _ h => h) (Or.inl ⟨by rfl, ?ysf8⟩) hS ?_
      case ysf8 =>
        intro w hSw
        obtain ⟨i0, i1⟩ := HC.out w hSw
        go_simp; all_goals (with_reducible rfl)
      simp only [Act.put, List.setIfInBounds_toArray, List.set_cons_zero, List.set_cons_succ]
      refine wpAnyH_take (i := 8) (oi := { dst := some 21, op := Op.load 5 (Operand.tmp 20), type := 5, pos := "finder.go:114", after := #[{ on := 7, ground := Ground.data }], guard := none }) (v := ?vsf9) rfl (by kernel_rfl) (by kernel_rfl) (by kernel_rfl) (fun _ _ _ h => h) (Or.inl ⟨by rfl, ?ysf9⟩) hS ?_
      case ysf9 =>
        intro w hSw
        obtain ⟨i0, i1⟩ := HC.out w hSw
        go_simp; all_goals (with_reducible rfl)
      simp only [Act.put, List.setIfInBounds_toArray, List.set_cons_zero, List.set_cons_succ]
      refine wpAnyH_take (i := 9) (oi := { dst := some 22, op := Op.build 61 #[(0, Operand.tmp 16), (1, Operand.tmp 21)], type := 61, pos := "finder.go:114", after := #[{ on := 3, ground := Ground.data }, { on := 8, ground := Ground.data }], guard := none }) (v := ?vsf10) rfl (by kernel_rfl) (by kernel_rfl) (by kernel_rfl) (fun _ _ _ h => h) (Or.inl ⟨by rfl, ?ysf10⟩) hS ?_
      case ysf10 =>
        intro w hSw
        obtain ⟨i0, i1⟩ := HC.out w hSw
        go_simp; all_goals (with_reducible rfl)
      simp only [Act.put, List.setIfInBounds_toArray, List.set_cons_zero, List.set_cons_succ]
      refine wpAnyH_ready (rs := [10]) (by kernel_rfl) (by simp) ?_
      refine (AllReadyH.cons (o := { dst := some 5, op := Op.alloc 61, type := 0, pos := "finder.go:114", after := #[], guard := none }) rfl (fun K hK => ?_) AllReadyH.nil)
      go_simp
      refine hK.out _ _ (Below.heap_alloc _ _ _ hbl) (fun _ => ?_)
      clear hK K
      refine wpAnyH_ready (rs := [11]) (by kernel_rfl) (by simp) ?_
      refine (AllReadyH.cons (o := { dst := none, op := Op.store 61 (Operand.tmp 5) (Operand.tmp 22), type := 0, pos := "finder.go:114", after := #[{ on := 10, ground := Ground.data }, { on := 9, ground := Ground.data }, { on := 0, ground := Ground.phase }, { on := 1, ground := Ground.phase }, { on := 2, ground := Ground.phase }, { on := 3, ground := Ground.phase }, { on := 4, ground := Ground.phase }, { on := 5, ground := Ground.phase }, { on := 6, ground := Ground.phase }, { on := 7, ground := Ground.phase }, { on := 8, ground := Ground.phase }, { on := 9, ground := Ground.phase }, { on := 10, ground := Ground.phase }], guard := none }) rfl (fun K hK => ?_) AllReadyH.nil)
      go_simp
      refine hK.out _ _ (Below.heap_alloc _ _ _ hbl) (fun _ => ?_)
      clear hK K
      refine wpAnyH_done (by kernel_rfl) ?_ _
      obtain ⟨W2, hW2⟩ : ∃ W2, (wr.alloc (.cells #[.int .u8 (z0.toNat : Nat), .int .u8 (z1.toNat : Nat)] 61)).drew = W2 := ⟨_, rfl⟩
      rw [hW2]
      have hb2 : Below wr.heap.size wr W2 := by
        rw [← hW2]
        have h := (Below.refl wr.heap.size wr).alloc (Nat.le_refl _) (.cells #[.int .u8 (z0.toNat : Nat), .int .u8 (z1.toNat : Nat)] 61)
        exact ⟨h.os, h.tape, h.output, h.size, h.block⟩
      have hbx : W2.heap[wr.heap.size]? = some (.cells #[.int .u8 (z0.toNat : Nat), .int .u8 (z1.toNat : Nat)] 61 (0, 0)) := by
        rw [← hW2]; exact heap_alloc_last _ _
      have x0 : W2.cell? ⟨wr.heap.size, 0, none⟩ = some (.int .u8 (z0.toNat : Nat)) := by rw [cell_of_row W2 _ _ _ _ _ hbx]; rfl
      have x1 : W2.cell? ⟨wr.heap.size, 1, none⟩ = some (.int .u8 (z1.toNat : Nat)) := by rw [cell_of_row W2 _ _ _ _ _ hbx]; rfl
      obtain ⟨W3, hW3⟩ : ∃ W3, W2.alloc (.cells #[.int .i32 (k : Nat)] 21) = W3 := ⟨_, rfl⟩
      have hb3 : Below wr.heap.size wr W3 := by rw [← hW3]; exact hb2.alloc hb2.size _
      have hsz3 : W3.heap.size = W2.heap.size + 1 := by rw [← hW3]; simp
      have hcn : W3.heap[W2.heap.size]? = some (.cells #[.int .i32 (k : Nat)] 21 (0, 0)) := by rw [← hW3]; exact heap_alloc_last _ _
      have hbw := HB.out.size
      have hl3 := HL.out.below hb3
      have hlt := hl3.lt
      obtain ⟨v, st, w1, hme, hg1, hown1, hst⟩ := hl3.entry (by omega)
      rw [HE.out.1, HE.out.2, ← hW3] at hme
      simp only [pairV, goInt] at hme
      have hlen := places_len l (l.getD k 0) (l.getD (k + 1) 0) k
      rw [HE.out.1, HE.out.2] at hown1 hst hlen
      have hlen2 : ((places l z0 z1 k).map (fun i => Value.int .i32 (i : Nat))).length ≤ 100000 := by rw [List.length_map]; omega
      obtain ⟨PL, hPL⟩ : ∃ PL, (places l z0 z1 k).map (fun i => Value.int .i32 (i : Nat)) = PL := ⟨_, rfl⟩
      rw [hPL] at hown1 hst hlen2
      have hbs := hb2.size
      have hcn1 : w1.heap[W2.heap.size]? = some (.cells #[.int .i32 (k : Nat)] 21 (0, 0)) := (hg1.block _ (by omega) (by
        have hwl : w.heap.size < wr.heap.size := HL.out.lt
        intro e; injection e with e; omega)).trans hcn
      have hlit : ∀ i (h : i < [Value.int .i32 (k : Nat)].length), w1.cell? ⟨W2.heap.size, i, none⟩ = some [Value.int .i32 (k : Nat)][i] := by
        intro i hi
        obtain rfl : i = 0 := by simpa using hi
        rw [cell_of_row _ _ _ _ _ _ hcn1]; rfl
      have HST := Lib.hid hst
      have HBW : Hid (Below w.heap.size w w1) := Lib.hid (below_grown (HB.out.trans (hb3.mono hbw)) hg1 (Nat.le_trans hbw hb3.size) (fun g e => by injection e with e; omega))
      have HOWN := Lib.hid hown1
      have HLIT := Lib.hid hlit
      have HSZ1 : Hid (w.heap.size + 1 ≤ w1.heap.size) := Lib.hid (Nat.le_trans (by omega) hg1.size)
      have HLEN := Lib.hid hlen2
      have HG1S := Lib.hid hg1.size
      clear hW2 hb2 hS hbx hW3 hb3 hsz3 hcn hl3 hg1 hown1 hst hlen hlen2 hPL hbs hcn1 hlit hlt hbw
      have hw32 : IntKind.i32.wrap (k : Int) = (k : Int) := by
        have e1 : IntKind.i32.min = -2147483648 := rfl
        have e2 : IntKind.i32.max = 2147483647 := rfl
        first | exact IntWalk.i32_in _ (by omega) | (unfold IntKind.wrap; simp; omega)
      go_wp2_with (at_builtin; refine wpList_append_vals elem32 rfl (.tmp 25) (.tmp 28) rfl (w.heap.size + 1) w1 v PL rfl HOWN.out W2.heap.size 1 1 [.int .i32 (k : Nat)] rfl rfl HLIT.out (by intro u hu; simp at hu; subst hu; rfl) (by have := HLEN.out; omega) (by have := HLEN.out; omega) HSZ1.out ?_; intro v' w2 hown2 hg2 hloc; obtain ⟨w3, hes, hp3, hg3⟩ := HST.out w2 v' hg2 hown2 (hloc.imp id fun e => ⟨_, e, HG1S.out⟩); simp only [goInt] at hes; have HP3 := Lib.hid hp3; have HB3 : Hid (Below w.heap.size w w3) := Lib.hid (below_grown (below_grown HBW.out hg2 HBW.out.size (fun g e => by have := (HOWN.out.lt g e).1; omega)) hg3 (Nat.le_trans HBW.out.size hg2.size) (fun g e => by injection e with e; omega)); clear hown2 hg2 hloc hp3 hg3)
      exact ⟨⟨k + 1, by omega, by rw [← k1]; rfl, HP3, HB3⟩, by simp [intOf]; omega⟩
    · obtain rfl : k = n := by omega
      have hki : ¬ (k : Int) < (l.length : Int) - 1 := by have := HN.out; omega
      have hki2 : decide ((k : Int) < (l.length : Int) - 1) = false := decide_eq_false hki
      clear HMP HB1
      go_wp2_with fail
      go_ret
      exact ⟨rfl, HL.out, HB.out⟩
end Go.Proofs.Ytnglkipjiojipaa
