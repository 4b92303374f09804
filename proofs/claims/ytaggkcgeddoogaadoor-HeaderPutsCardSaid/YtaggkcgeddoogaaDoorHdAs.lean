/- The law's As (a head in the reference's type), the reference's Same on equal heads, Sealed. -/
import Derived.Test.YtaggkcgeddoogaaDoorHdRGet
namespace Go.Proofs.YtaggkcgeddoogaaDoor
open Go.RowKit

set_option maxRecDepth 100000 in
set_option maxHeartbeats 2000000 in
theorem rsame_any (A B : Option Addr) (h : HeadM) (c d : Nat) (w : World) (hA : Fils w A h.l) (hB : Fils w B h.l) (hl : h.l.length ≤ 1000000) (hc : h.l.length ≤ c) (hd : h.l.length ≤ d) :
    Calls Tryd.prog 11 #[headV h A c, headV h B d] w fun e w' => e = .returned (.bool true) ∧ Below w.heap.size w w' := by
  have hli : (h.l.length : Int) ≤ 1000000 := by omega
  obtain ⟨W0, hW0⟩ : ∃ W0, (w.alloc (.cells #[.int .i64 h.p, .int .i64 h.q, .slice A h.l.length c, .int .u32 (h.d : Nat)] 32)).alloc (.cells #[.int .i64 h.p, .int .i64 h.q, .slice B h.l.length d, .int .u32 (h.d : Nat)] 32) = W0 := ⟨_, rfl⟩
  have hb0 : Below w.heap.size w W0 := by rw [← hW0]; exact ((Below.refl _ _).alloc (Nat.le_refl _) _).alloc (by simp) _
  have hr0 : Rb4 w.heap.size W0 (.int .i64 h.p) (.int .i64 h.q) (.slice A h.l.length c) (.int .u32 (h.d : Nat)) := by rw [← hW0]; exact (Below.heap_alloc _ _ _ (by simp)).trans (heap_alloc_last _ _)
  have hr1 : Rb4 (w.heap.size + 1) W0 (.int .i64 h.p) (.int .i64 h.q) (.slice B h.l.length d) (.int .u32 (h.d : Nat)) := by
    have h2 := heap_alloc_last (w.alloc (.cells #[.int .i64 h.p, .int .i64 h.q, .slice A h.l.length c, .int .u32 (h.d : Nat)] 32)) (.cells #[.int .i64 h.p, .int .i64 h.q, .slice B h.l.length d, .int .u32 (h.d : Nat)] 32)
    rw [World.size_alloc] at h2
    rw [← hW0]; exact h2
  have hsz : W0.heap.size = w.heap.size + 2 := by rw [← hW0]; simp
  have HW0 := Lib.hid hW0
  have HR0 := Lib.hid (fun (wx : World) (h2 : Below W0.heap.size W0 wx) => Rb4.cells ((h2.block _ (by omega)).trans hr0))
  have HR1 := Lib.hid (fun (wx : World) (h2 : Below W0.heap.size W0 wx) => Rb4.cells ((h2.block _ (by omega)).trans hr1))
  have HB0 := Lib.hid hb0
  obtain ⟨y0, y1, y2, y3⟩ := hr0.cells
  obtain ⟨z0, z1, z2, z3⟩ := hr1.cells
  have hpp : (h.p != h.p) = false := by simp
  have hqq : (h.q != h.q) = false := by simp
  have hdd : ((h.d : Int) != (h.d : Int)) = false := by simp
  have hll : ((h.l.length : Int) != (h.l.length : Int)) = false := by simp
  obtain ⟨p, q, l, d0⟩ := h
  simp only at *
  clear hW0 hr0 hr1 hb0
  go_enter Tryd.func11, Tryd.ntmps11
  go_upto_region 1 with fail
  rw [HW0.out]
  clear HW0
  go_wp2_with fail
  go_loopw [5] (fun i wr => ∃ j : Nat, j ≤ l.length ∧ i = .int .i64 (j : Nat) ∧ Hid (Below W0.heap.size W0 wr)) (fun i _ => l.length - (intOf i).toNat)
  case atStart => exact ⟨0, by omega, rfl, Lib.hid (Below.refl _ _)⟩
  case round =>
    obtain ⟨j, hj, rfl, HBR⟩ := hrel
    obtain ⟨_, _, x2, _⟩ := HR0.out wr HBR.out
    by_cases hjl : j < l.length
    · have hji : (j : Int) < (l.length : Int) := by omega
      obtain ⟨b, off, rfl, hb, hcl⟩ := hA.addr (by omega)
      obtain ⟨b2, off2, rfl, hb2, hcl2⟩ := hB.addr (by omega)
      have hcj := hcl j hjl
      have hcj2 := hcl2 j hjl
      generalize l[j] = r at *
      obtain ⟨n1, n2⟩ := r
      have HC1 := Lib.hid (fun (w' : World) (h : Below w.heap.size w w') => (show w'.cell? ⟨b, off + j * 2, none⟩ = some (.int .i64 n1) ∧ w'.cell? ⟨b, off + j * 2 + 1, none⟩ = some (.int .u32 (n2 : Nat)) from ⟨(h.cell (p := ⟨b, off + j * 2, none⟩) hb).trans hcj.c0, (h.cell (p := ⟨b, off + j * 2 + 1, none⟩) hb).trans hcj.c1⟩))
      have HC2 := Lib.hid (fun (w' : World) (h : Below w.heap.size w w') => (show w'.cell? ⟨b2, off2 + j * 2, none⟩ = some (.int .i64 n1) ∧ w'.cell? ⟨b2, off2 + j * 2 + 1, none⟩ = some (.int .u32 (n2 : Nat)) from ⟨(h.cell (p := ⟨b2, off2 + j * 2, none⟩) hb2).trans hcj2.c0, (h.cell (p := ⟨b2, off2 + j * 2 + 1, none⟩) hb2).trans hcj2.c1⟩))
      have hdr0 : Below W0.heap.size W0 wr.drew := HBR.out.trans ((below_drew wr).mono HBR.out.size)
      have hdr : Below w.heap.size w wr.drew ∧ Below W0.heap.size W0 wr.drew := ⟨HB0.out.trans (hdr0.mono (by omega)), hdr0⟩
      have HJ := Lib.hid (show (j : Int) < (l.length : Int) ∧ (l.length : Int) ≤ 1000000 ∧ (l.length : Int) ≤ (c : Int) ∧ (l.length : Int) ≤ (d : Int) by omega)
      clear hcl hcl2 hcj hcj2 hdr0
      go_wp2_with fail
      refine wp_region_held_drew (S := fun w' => Below w.heap.size w w' ∧ Below W0.heap.size W0 w') (by kernel_rfl) hdr (fun hS => ?_)
      refine wpAnyH_take (i := 0) (oi := { dst := some 41, op := Op.fieldAddr 32 (Operand.tmp 2) 2, type := 0, pos := "ref.go:149", after := #[], guard := none }) (v := ?vsm1) rfl (by kernel_rfl) (by kernel_rfl) (by kernel_rfl) (fun _ _ _ h => h) (Or.inl ⟨by rfl, ?ysm1⟩) hS ?_
      case ysm1 =>
        intro w hSw
        go_simp; all_goals (with_reducible rfl)
      simp only [Act.put, List.setIfInBounds_toArray, List.set_cons_zero, List.set_cons_succ]
      refine wpAnyH_take (i := 1) (oi := { dst := some 42, op := Op.load 22 (Operand.tmp 41), type := 22, pos := "ref.go:149", after := #[{ on := 0, ground := Ground.data }], guard := none }) (v := ?vsm2) rfl (by kernel_rfl) (by kernel_rfl) (by kernel_rfl) (fun _ _ _ h => h) (Or.inl ⟨by rfl, ?ysm2⟩) hS ?_
      case ysm2 =>
        intro w hSw
        obtain ⟨_, _, i2, _⟩ := HR0.out w hSw.2
        go_simp; all_goals (with_reducible rfl)
      simp only [Act.put, List.setIfInBounds_toArray, List.set_cons_zero, List.set_cons_succ]
      refine wpAnyH_take (i := 2) (oi := { dst := some 43, op := Op.move (Operand.tmp 5), type := 3, pos := "ref.go:149", after := #[], guard := none }) (v := ?vsm3) rfl (by kernel_rfl) (by kernel_rfl) (by kernel_rfl) (fun _ _ _ h => h) (Or.inl ⟨by rfl, ?ysm3⟩) hS ?_
      case ysm3 =>
        intro w hSw
        go_simp; all_goals (with_reducible rfl)
      simp only [Act.put, List.setIfInBounds_toArray, List.set_cons_zero, List.set_cons_succ]
      refine wpAnyH_take (i := 3) (oi := { dst := some 44, op := Op.indexAddr 22 (Operand.tmp 42) (Operand.tmp 43), type := 0, pos := "ref.go:149", after := #[{ on := 1, ground := Ground.data }, { on := 2, ground := Ground.data }], guard := none }) (v := ?vsm4) rfl (by kernel_rfl) (by kernel_rfl) (by kernel_rfl) (fun _ _ _ h => h) (Or.inl ⟨by rfl, ?ysm4⟩) hS ?_
      case ysm4 =>
        intro w hSw
        have hj1 := HJ.out.1
        have hj2 := HJ.out.2.1
        have hj3 := HJ.out.2.2.1
        have hj4 := HJ.out.2.2.2
        go_simp; all_goals (with_reducible rfl)
      simp only [Act.put, List.setIfInBounds_toArray, List.set_cons_zero, List.set_cons_succ]
      refine wpAnyH_take (i := 4) (oi := { dst := some 45, op := Op.load 48 (Operand.tmp 44), type := 48, pos := "ref.go:149", after := #[{ on := 3, ground := Ground.data }], guard := none }) (v := ?vsm5) rfl (by kernel_rfl) (by kernel_rfl) (by kernel_rfl) (fun _ _ _ h => h) (Or.inl ⟨by rfl, ?ysm5⟩) hS ?_
      case ysm5 =>
        intro w hSw
        obtain ⟨i1, i2⟩ := HC1.out w hSw.1
        go_simp; all_goals (with_reducible rfl)
      simp only [Act.put, List.setIfInBounds_toArray, List.set_cons_zero, List.set_cons_succ]
      refine wpAnyH_take (i := 5) (oi := { dst := some 46, op := Op.fieldAddr 32 (Operand.tmp 3) 2, type := 0, pos := "ref.go:149", after := #[], guard := none }) (v := ?vsm6) rfl (by kernel_rfl) (by kernel_rfl) (by kernel_rfl) (fun _ _ _ h => h) (Or.inl ⟨by rfl, ?ysm6⟩) hS ?_
      case ysm6 =>
        intro w hSw
        go_simp; all_goals (with_reducible rfl)
      simp only [Act.put, List.setIfInBounds_toArray, List.set_cons_zero, List.set_cons_succ]
      refine wpAnyH_take (i := 6) (oi := { dst := some 47, op := Op.load 22 (Operand.tmp 46), type := 22, pos := "ref.go:149", after := #[{ on := 5, ground := Ground.data }], guard := none }) (v := ?vsm7) rfl (by kernel_rfl) (by kernel_rfl) (by kernel_rfl) (fun _ _ _ h => h) (Or.inl ⟨by rfl, ?ysm7⟩) hS ?_
      case ysm7 =>
        intro w hSw
        obtain ⟨_, _, i2, _⟩ := HR1.out w hSw.2
        go_simp; all_goals (with_reducible rfl)
      simp only [Act.put, List.setIfInBounds_toArray, List.set_cons_zero, List.set_cons_succ]
      refine wpAnyH_take (i := 7) (oi := { dst := some 48, op := Op.move (Operand.tmp 5), type := 3, pos := "ref.go:149", after := #[], guard := none }) (v := ?vsm8) rfl (by kernel_rfl) (by kernel_rfl) (by kernel_rfl) (fun _ _ _ h => h) (Or.inl ⟨by rfl, ?ysm8⟩) hS ?_
      case ysm8 =>
        intro w hSw
        go_simp; all_goals (with_reducible rfl)
      simp only [Act.put, List.setIfInBounds_toArray, List.set_cons_zero, List.set_cons_succ]
      refine wpAnyH_take (i := 8) (oi := { dst := some 49, op := Op.indexAddr 22 (Operand.tmp 47) (Operand.tmp 48), type := 0, pos := "ref.go:149", after := #[{ on := 6, ground := Ground.data }, { on := 7, ground := Ground.data }], guard := none }) (v := ?vsm9) rfl (by kernel_rfl) (by kernel_rfl) (by kernel_rfl) (fun _ _ _ h => h) (Or.inl ⟨by rfl, ?ysm9⟩) hS ?_
      case ysm9 =>
        intro w hSw
        have hj1 := HJ.out.1
        have hj2 := HJ.out.2.1
        have hj3 := HJ.out.2.2.1
        have hj4 := HJ.out.2.2.2
        go_simp; all_goals (with_reducible rfl)
      simp only [Act.put, List.setIfInBounds_toArray, List.set_cons_zero, List.set_cons_succ]
      refine wpAnyH_take (i := 9) (oi := { dst := some 50, op := Op.load 48 (Operand.tmp 49), type := 48, pos := "ref.go:149", after := #[{ on := 8, ground := Ground.data }], guard := none }) (v := ?vsm10) rfl (by kernel_rfl) (by kernel_rfl) (by kernel_rfl) (fun _ _ _ h => h) (Or.inl ⟨by rfl, ?ysm10⟩) hS ?_
      case ysm10 =>
        intro w hSw
        obtain ⟨i1, i2⟩ := HC2.out w hSw.1
        go_simp; all_goals (with_reducible rfl)
      simp only [Act.put, List.setIfInBounds_toArray, List.set_cons_zero, List.set_cons_succ]
      refine wpAnyH_take (i := 10) (oi := { dst := some 51, op := Op.binOp BinOp.neq 48 (Operand.tmp 45) (Operand.tmp 50) 48, type := 4, pos := "ref.go:149", after := #[{ on := 4, ground := Ground.data }, { on := 9, ground := Ground.data }], guard := none }) (v := ?vsm11) rfl (by kernel_rfl) (by kernel_rfl) (by kernel_rfl) (fun _ _ _ h => h) (Or.inl ⟨by rfl, ?ysm11⟩) hS ?_
      case ysm11 =>
        intro w hSw
        go_simp; all_goals (with_reducible rfl)
      simp only [Act.put, List.setIfInBounds_toArray, List.set_cons_zero, List.set_cons_succ]
      refine wpAnyH_done (by kernel_rfl) ?_ _
      go_wp2_with fail
      exact ⟨⟨j + 1, by omega, by go_num, Lib.hid (HBR.out.trans ((below_drew wr).mono HBR.out.size))⟩, by simp [intOf]; omega⟩
    · obtain rfl : j = l.length := by omega
      go_wp2_with fail
      go_ret
      exact ⟨rfl, HB0.out.trans (HBR.out.mono (by omega))⟩

set_option maxRecDepth 100000 in
set_option maxHeartbeats 2000000 in
theorem as_any (A : Option Addr) (h : HeadM) (c : Nat) (w : World) :
    Calls Tryd.prog 8 #[headV h A c] w fun e w' => e = .returned (headV h A c) ∧ Below w.heap.size w w' := by
  obtain ⟨p, q, l, d⟩ := h
  obtain ⟨W0, hW0⟩ : ∃ W0, (w.alloc (.cells #[.int .i64 p, .int .i64 q, .slice A l.length c, .int .u32 (d : Nat)] 25)).alloc (.cells #[.int .i64 0, .int .i64 0, .slice none 0 0, .int .u32 0] 32) = W0 := ⟨_, rfl⟩
  have hb0 : Below w.heap.size w W0 := by rw [← hW0]; exact ((Below.refl _ _).alloc (Nat.le_refl _) _).alloc (by simp) _
  have hr0 : Blk4 w.heap.size W0 (.int .i64 p) (.int .i64 q) (.slice A l.length c) (.int .u32 (d : Nat)) := by rw [← hW0]; exact (Below.heap_alloc _ _ _ (by simp)).trans (heap_alloc_last _ _)
  have hr1 : Rb4 (w.heap.size + 1) W0 (.int .i64 0) (.int .i64 0) (.slice none 0 0) (.int .u32 0) := by
    have h2 := heap_alloc_last (w.alloc (.cells #[.int .i64 p, .int .i64 q, .slice A l.length c, .int .u32 (d : Nat)] 25)) (.cells #[.int .i64 0, .int .i64 0, .slice none 0 0, .int .u32 0] 32)
    rw [World.size_alloc] at h2
    rw [← hW0]; exact h2
  have HW0 := Lib.hid hW0
  obtain ⟨y0, y1, y2, y3⟩ := hr0.cells
  obtain ⟨z0, z1, z2, z3⟩ := hr1.cells
  have zf0 := hr1.frozen 0
  have zf1 := hr1.frozen 1
  have zf2 := hr1.frozen 2
  have zf3 := hr1.frozen 3
  have HR1 := Lib.hid hr1
  have HB0 := Lib.hid hb0
  clear hW0 hr0 hr1 hb0
  go_enter Tryd.func8, Tryd.ntmps8
  go_upto_region 1 with fail
  rw [HW0.out]
  clear HW0
  go_wp2_with fail
  obtain ⟨k0, k1, k2, k3⟩ := Rb4.ret HR1.out (.int .i64 p) (.int .i64 q) (.slice A l.length c) (.int .u32 (d : Nat))
  have hle : w.heap.size ≤ w.heap.size + 1 := by omega
  exact bodyPost_ret (v := .agg #[.int .i64 p, .int .i64 q, .slice A l.length c, .int .u32 (d : Nat)]) (by simp [results, Tryd.results8, go_sem, k0, k1, k2, k3]) rfl ⟨rfl, Below.setCell (p := ⟨w.heap.size + 1, 3, none⟩) (Below.setCell (p := ⟨w.heap.size + 1, 2, none⟩) (Below.setCell (p := ⟨w.heap.size + 1, 1, none⟩) (Below.setCell (p := ⟨w.heap.size + 1, 0, none⟩) HB0.out hle _) hle _) hle _) hle _⟩

set_option maxRecDepth 100000 in
set_option maxHeartbeats 2000000 in
theorem rsealed_any (A : Option Addr) (l : List UInt8) (c n : Nat) (w : World) (hB : Bytes w A l) (hn : n ≤ l.length) (hc : l.length ≤ c) (hm : c ≤ 9223372036854775807) (hl : l.length ≤ 1000000) :
    Calls Tryd.prog 12 #[.slice A l.length c, .int .i64 (n : Nat)] w fun e w' => ∃ v, e = .returned v ∧ Own w.heap.size w' v (l.take n ++ sum1 (l.take n) ++ l.drop n) ∧ Below w.heap.size w w' := by
  have hni : (n : Int) ≤ (l.length : Int) := by omega
  have hci : (l.length : Int) ≤ (c : Int) := by omega
  have hli : (l.length : Int) ≤ 1000000 := by omega
  have hnc : (n : Int) ≤ (c : Int) := by omega
  have htl : (l.take n).length = n := by rw [List.length_take]; omega
  have hdl : (l.drop n).length = l.length - n := List.length_drop
  have HB := Lib.hid (fun (wx : World) (h : Below w.heap.size w wx) => hB.below h)
  have hoE : Own w.heap.size (w.alloc (.cells #[] 5)) (.slice (some ⟨w.heap.size, 0, none⟩) 0 0) [] := Own.lit w [] (Nat.le_refl _) (by simp)
  have hbE : Below w.heap.size w (w.alloc (.cells #[] 5)) := (Below.refl _ _).alloc (Nat.le_refl _) _
  have hBt := (HB.out _ hbE).take n
  have hszE := hbE.size
  have hs1 : ([] : List UInt8).length + (l.take n).length ≤ 140737488355328 := by simp; omega
  have HBE := Lib.hid hbE
  have HLE := Lib.hid (And.intro htl (And.intro hdl hl))
  clear hbE hB
  go_enter Tryd.func12, Tryd.ntmps12
  go_upto_region 2 with (at_builtin; refine wpList_append_bytes rfl (.tmp 6) (.tmp 9) rfl w.heap.size _ _ [] rfl hoE A (l.take n) c (by rw [htl]; rfl) hBt hs1 hszE ?_; intro v3 w3 ho3 hg3)
  rw [List.nil_append] at ho3
  have hb3 : Below w.heap.size w w3 := below_grown HBE.out hg3 HBE.out.size (fun g e => (hoE.from_base g e).1)
  have HS := Lib.hid (rchk1_any A (l.take n) c w3 ((HB.out w3 hb3).take n) (by rw [htl]; omega))
  rw [htl] at HS
  have HO3 := Lib.hid ho3
  clear hoE hBt hszE hs1 ho3 hg3
  go_wp2_with fail
  refine HS.out.mono ?_
  rintro e w5 h5
  obtain ⟨A5, c5, rfl, hc5, hm5, hB5, hb5⟩ := h5.bytes
  have hb05 : Below w.heap.size w w5 := hb3.trans (hb5.mono hb3.size)
  have ho5 := HO3.out.below hb5
  have hsum := sum1_length (l.take n)
  have hs2 : (l.take n).length + (sum1 (l.take n)).length ≤ 140737488355328 := by have := HLE.out; omega
  have HS4 := Lib.hid hsum
  have hsz5 := hb05.size
  rw [hsum]
  clear hb5 h5 hsum
  go_upto_region 3 with (at_builtin; refine wpList_append_bytes rfl (.tmp 11) (.tmp 15) rfl w.heap.size _ v3 (l.take n) rfl ho5 A5 (sum1 (l.take n)) c5 (by rw [HS4.out]; rfl) hB5 hs2 hsz5 ?_; intro v6 w6 ho6 hg6)
  have hb06 : Below w.heap.size w w6 := below_grown hb05 hg6 hb05.size (fun g e => (ho5.from_base g e).1)
  have hBw6 := HB.out w6 hb06
  have hsz6 := hb06.size
  have hs3 : (l.take n ++ sum1 (l.take n)).length + (l.drop n).length ≤ 140737488355328 := by rw [List.length_append, HS4.out]; have := HLE.out; omega
  have HB6 := Lib.hid hb06
  clear ho5 hB5 hc5 hm5 hg6 hb06 hb05 hsz5 hs2
  by_cases hcn : c = n
  · have hd0 : l.drop n = [] := List.drop_eq_nil_of_le (by omega)
    have hBd : Bytes w6 A (l.drop n) := by rw [hd0]; exact .nil
    have hdl9 : (l.drop n).length = l.length - n := List.length_drop
    subst hcn
    have hl0 : l.length - c = 0 := by omega
    go_wp2_with (at_builtin; refine wpList_append_bytes rfl (.tmp 17) (.tmp 20) rfl w.heap.size _ v6 (l.take c ++ sum1 (l.take c)) rfl ho6 A (l.drop c) 0 (by rw [hdl9, hl0]; rfl) hBd hs3 hsz6 ?_; intro v7 w7 ho7 hg7)
    go_ret
    exact ⟨_, rfl, ho7, below_grown HB6.out hg7 HB6.out.size (fun g e => (ho6.from_base g e).1)⟩
  · have hBd := hBw6.cut n
    have hdl9 : (l.drop n).length = l.length - n := List.length_drop
    go_wp2_with (at_builtin; refine wpList_append_bytes rfl (.tmp 17) (.tmp 20) rfl w.heap.size _ v6 (l.take n ++ sum1 (l.take n)) rfl ho6 _ (l.drop n) (c - n) (by rw [hdl9]; rfl) hBd hs3 hsz6 ?_; intro v7 w7 ho7 hg7)
    go_ret
    exact ⟨_, rfl, ho7, below_grown HB6.out hg7 HB6.out.size (fun g e => (ho6.from_base g e).1)⟩
end Go.Proofs.YtaggkcgeddoogaaDoor
