/- The contract of ChainFilters. -/
import Derived.Test.YtflklbnebljnmaaChFilters
namespace Go.Proofs.Ytflklbnebljnmaa
open Go.RowKit

def codeOf (a : Int) : Nat := if a < 0 then 0 else dictN a.toNat
theorem codeOf_lt (a : Int) : codeOf a < 4294967296 := by
  unfold codeOf; split
  · omega
  · exact dictN_lt _

set_option maxRecDepth 100000 in
set_option maxHeartbeats 2000000 in
theorem fl_yy (id0 : Int) (n0 : Nat) (id : Int) (A : Option Addr) (b : List UInt8) (c : Nat) (d : Nat) (code : Int) (w : World) (hf : (⟨id0, n0⟩ : Fil).ok) (hB : Bytes w A b) (hd : d < 4294967296) (h1 : b.length ≤ 20) (l : List UInt8) (hbl : bytesL ⟨id0, n0⟩ = some l) (hback : readL id0 l = some ⟨id0, n0⟩) (gi : Int) (gn : Nat) (hrd : readL id b = some ⟨gi, gn⟩) (_hgn : gn < 4294967296) :
    Calls Try.prog 4 #[.agg #[.int .i64 id0, .int .u32 (n0 : Nat)], .int .i64 id, .slice A b.length c, .int .u32 (d : Nat), .int .i64 code] w (Holds w) := by
  have hbx := below_box w (.cells #[.int .i64 id0, .int .u32 (n0 : Nat)] 33)
  have h1' : (b.length : Int) ≤ 20 := by omega
  have HC1 := Lib.hid (code_any d hd)
  have HC2 := Lib.hid (rcodeN_any d hd)
  have HD1 : Hid (∀ w, Calls Try.prog 18 #[.int .i64 code] w fun e w' => e = .returned (.int .u32 (codeOf code : Nat)) ∧ w = w') := Lib.hid (fun w => dict_any code w)
  have HD2 : Hid (∀ w, Calls Try.prog 19 #[.int .i64 code] w fun e w' => e = .returned (.int .u64 (codeOf code : Nat)) ∧ w = w') := Lib.hid (fun w => rdict_any code w)
  have hcl := codeOf_lt code
  generalize codeOf code = K at *
  generalize codeN d = C at *
  have HB1 := Lib.hid (cbytes_any ⟨id0, n0⟩ hf)
  have HB2 := Lib.hid (rbytes_any ⟨id0, n0⟩ hf)
  have HR1 := Lib.hid (fun (w' : World) (h : Bytes w' A b) => cread_any id A b c w' h)
  have HR2 := Lib.hid (fun (w' : World) (h : Bytes w' A b) => rread_any id A b c w' h)
  rw [hbl] at HB1 HB2
  rw [hrd] at HR1 HR2
  simp only [Fil.agg] at HB1 HB2
  obtain ⟨o1, o2, o3⟩ := hf
  simp only at o1 o2 o3
  have HRB := Lib.hid (fun (A : Option Addr) (c : Nat) (w' : World) (h : Bytes w' A l) => cread_any id0 A l c w' h)
  rw [hback] at HRB
  clear hbl hrd hback
  go_enter Try.func4, Try.ntmps4
  go_wp2_with fail
  refine (HB1.out _).mono ?_
  rintro e w1 ⟨v1, rfl, ho1, hb1⟩
  have g1 := hbx.trans (hb1.mono hbx.size)
  have k0 := (hb1.cell (p := ⟨w.heap.size, 0, none⟩) (by simp)).trans (box_cells w (.int .i64 id0) (.int .u32 (n0 : Nat)) 33).1
  have k1 := (hb1.cell (p := ⟨w.heap.size, 1, none⟩) (by simp)).trans (box_cells w (.int .i64 id0) (.int .u32 (n0 : Nat)) 33).2
  have hs1 : w.heap.size < w1.heap.size := by have := hb1.size; simp at this; omega
  clear hb1
  go_wp2_with fail
  refine (HB2.out _).mono ?_
  rintro e w2 ⟨v2, rfl, ho2, hb2⟩
  have g2 := g1.trans (hb2.mono g1.size)
  have k0' := (hb2.cell (p := ⟨w.heap.size, 0, none⟩) hs1).trans k0
  have k1' := (hb2.cell (p := ⟨w.heap.size, 1, none⟩) hs1).trans k1
  have hs2 : w.heap.size < w2.heap.size := Nat.lt_of_lt_of_le hs1 hb2.size
  have ho12 := ho1.below hb2
  obtain ⟨A1, c1, rfl, hc1, hm1, hB1⟩ := ho12.read
  obtain ⟨A2, c2, rfl, hc2, hm2, hB2⟩ := ho2.read
  have s1 := run_str hB1 c1
  have s2 := run_str hB2 c2
  clear ho1 ho2 ho12 hb2 k0 k1 hs1
  go_wp2_with fail
  refine (HRB.out A1 c1 _ hB1).mono ?_
  rintro e w3 ⟨rfl, hb3⟩
  have g3 := g2.trans (hb3.mono g2.size)
  have m0 := (hb3.cell (p := ⟨w.heap.size, 0, none⟩) hs2).trans k0'
  have m1 := (hb3.cell (p := ⟨w.heap.size, 1, none⟩) hs2).trans k1'
  have hs3 : w.heap.size < w3.heap.size := Nat.lt_of_lt_of_le hs2 hb3.size
  have m0' := ((below_box w3 (.cells #[.int .i64 id0, .int .u32 (n0 : Nat)] 33)).cell (p := ⟨w.heap.size, 0, none⟩) hs3).trans m0
  have m1' := ((below_box w3 (.cells #[.int .i64 id0, .int .u32 (n0 : Nat)] 33)).cell (p := ⟨w.heap.size, 1, none⟩) hs3).trans m1
  clear hb3 k0' k1' s1 s2 hs2 m0 m1 hs3
  have g4 := g3.alloc g3.size (.cells #[.int .i64 id0, .int .u32 (n0 : Nat)] 33)
  go_wp2_with fail
  refine (HR1.out _ (hB.below g4)).mono ?_
  rintro e w5 ⟨rfl, hb5⟩
  have g5 := g4.trans (hb5.mono g4.size)
  have g6 := g5.alloc g5.size (.cells #[.int .i64 gi, .int .u32 (gn : Nat)] 33)
  go_wp2_with fail
  refine (HR2.out _ (hB.below g6)).mono ?_
  rintro e w7 ⟨rfl, hb7⟩
  have g7 := g6.trans (hb7.mono g6.size)
  have c0 := (hb7.cell (p := ⟨w5.heap.size, 0, none⟩) (by simp)).trans (box_cells w5 (.int .i64 gi) (.int .u32 (gn : Nat)) 33).1
  have c1 := (hb7.cell (p := ⟨w5.heap.size, 1, none⟩) (by simp)).trans (box_cells w5 (.int .i64 gi) (.int .u32 (gn : Nat)) 33).2
  have hlt7 : w5.heap.size < w7.heap.size := by have := hb7.size; simp at this; omega
  have c0' := fun o => ((below_box w7 o).cell (p := ⟨w5.heap.size, 0, none⟩) hlt7).trans c0
  have c1' := fun o => ((below_box w7 o).cell (p := ⟨w5.heap.size, 1, none⟩) hlt7).trans c1
  have d0' := c0' (.cells #[.int .i64 gi, .int .u32 (gn : Nat)] 33)
  have d1' := c1' (.cells #[.int .i64 gi, .int .u32 (gn : Nat)] 33)
  clear hb5 hb7 hlt7 c0 c1 c0' c1'
  go_wp2_with fail
  refine (HC1.out _).mono ?_
  rintro e w' ⟨rfl, rfl⟩
  go_wp2_with fail
  refine (HC2.out _).mono ?_
  rintro e w' ⟨rfl, rfl⟩
  go_wp2_with fail
  refine (HD1.out _).mono ?_
  rintro e w' ⟨rfl, rfl⟩
  go_wp2_with fail
  refine (HD2.out _).mono ?_
  rintro e w' ⟨rfl, rfl⟩
  go_wp2_with fail
  refine (knows_any _).mono ?_
  rintro e w8 ⟨rfl, hb8⟩
  go_wp2_with fail
  go_ret
  have g8 := g7.alloc g7.size (.cells #[.int .i64 gi, .int .u32 (gn : Nat)] 33)
  exact ⟨rfl, g8.trans (hb8.mono g8.size)⟩

set_option maxRecDepth 100000 in
set_option maxHeartbeats 2000000 in
theorem fl_yn (id0 : Int) (n0 : Nat) (id : Int) (A : Option Addr) (b : List UInt8) (c : Nat) (d : Nat) (code : Int) (w : World) (hf : (⟨id0, n0⟩ : Fil).ok) (hB : Bytes w A b) (hd : d < 4294967296) (h1 : b.length ≤ 20) (l : List UInt8) (hbl : bytesL ⟨id0, n0⟩ = some l) (hback : readL id0 l = some ⟨id0, n0⟩) (hrd : readL id b = none) :
    Calls Try.prog 4 #[.agg #[.int .i64 id0, .int .u32 (n0 : Nat)], .int .i64 id, .slice A b.length c, .int .u32 (d : Nat), .int .i64 code] w (Holds w) := by
  have hbx := below_box w (.cells #[.int .i64 id0, .int .u32 (n0 : Nat)] 33)
  have h1' : (b.length : Int) ≤ 20 := by omega
  have HC1 := Lib.hid (code_any d hd)
  have HC2 := Lib.hid (rcodeN_any d hd)
  have HD1 : Hid (∀ w, Calls Try.prog 18 #[.int .i64 code] w fun e w' => e = .returned (.int .u32 (codeOf code : Nat)) ∧ w = w') := Lib.hid (fun w => dict_any code w)
  have HD2 : Hid (∀ w, Calls Try.prog 19 #[.int .i64 code] w fun e w' => e = .returned (.int .u64 (codeOf code : Nat)) ∧ w = w') := Lib.hid (fun w => rdict_any code w)
  have hcl := codeOf_lt code
  generalize codeOf code = K at *
  generalize codeN d = C at *
  have HB1 := Lib.hid (cbytes_any ⟨id0, n0⟩ hf)
  have HB2 := Lib.hid (rbytes_any ⟨id0, n0⟩ hf)
  have HR1 := Lib.hid (fun (w' : World) (h : Bytes w' A b) => cread_any id A b c w' h)
  have HR2 := Lib.hid (fun (w' : World) (h : Bytes w' A b) => rread_any id A b c w' h)
  rw [hbl] at HB1 HB2
  rw [hrd] at HR1 HR2
  simp only [Fil.agg] at HB1 HB2
  obtain ⟨o1, o2, o3⟩ := hf
  simp only at o1 o2 o3
  have HRB := Lib.hid (fun (A : Option Addr) (c : Nat) (w' : World) (h : Bytes w' A l) => cread_any id0 A l c w' h)
  rw [hback] at HRB
  clear hbl hrd hback
  go_enter Try.func4, Try.ntmps4
  go_wp2_with fail
  refine (HB1.out _).mono ?_
  rintro e w1 ⟨v1, rfl, ho1, hb1⟩
  have g1 := hbx.trans (hb1.mono hbx.size)
  have k0 := (hb1.cell (p := ⟨w.heap.size, 0, none⟩) (by simp)).trans (box_cells w (.int .i64 id0) (.int .u32 (n0 : Nat)) 33).1
  have k1 := (hb1.cell (p := ⟨w.heap.size, 1, none⟩) (by simp)).trans (box_cells w (.int .i64 id0) (.int .u32 (n0 : Nat)) 33).2
  have hs1 : w.heap.size < w1.heap.size := by have := hb1.size; simp at this; omega
  clear hb1
  go_wp2_with fail
  refine (HB2.out _).mono ?_
  rintro e w2 ⟨v2, rfl, ho2, hb2⟩
  have g2 := g1.trans (hb2.mono g1.size)
  have k0' := (hb2.cell (p := ⟨w.heap.size, 0, none⟩) hs1).trans k0
  have k1' := (hb2.cell (p := ⟨w.heap.size, 1, none⟩) hs1).trans k1
  have hs2 : w.heap.size < w2.heap.size := Nat.lt_of_lt_of_le hs1 hb2.size
  have ho12 := ho1.below hb2
  obtain ⟨A1, c1, rfl, hc1, hm1, hB1⟩ := ho12.read
  obtain ⟨A2, c2, rfl, hc2, hm2, hB2⟩ := ho2.read
  have s1 := run_str hB1 c1
  have s2 := run_str hB2 c2
  clear ho1 ho2 ho12 hb2 k0 k1 hs1
  go_wp2_with fail
  refine (HRB.out A1 c1 _ hB1).mono ?_
  rintro e w3 ⟨rfl, hb3⟩
  have g3 := g2.trans (hb3.mono g2.size)
  have m0 := (hb3.cell (p := ⟨w.heap.size, 0, none⟩) hs2).trans k0'
  have m1 := (hb3.cell (p := ⟨w.heap.size, 1, none⟩) hs2).trans k1'
  have hs3 : w.heap.size < w3.heap.size := Nat.lt_of_lt_of_le hs2 hb3.size
  have m0' := ((below_box w3 (.cells #[.int .i64 id0, .int .u32 (n0 : Nat)] 33)).cell (p := ⟨w.heap.size, 0, none⟩) hs3).trans m0
  have m1' := ((below_box w3 (.cells #[.int .i64 id0, .int .u32 (n0 : Nat)] 33)).cell (p := ⟨w.heap.size, 1, none⟩) hs3).trans m1
  clear hb3 k0' k1' s1 s2 hs2 m0 m1 hs3
  have g4 := g3.alloc g3.size (.cells #[.int .i64 id0, .int .u32 (n0 : Nat)] 33)
  go_wp2_with fail
  refine (HR1.out _ (hB.below g4)).mono ?_
  rintro e w5 ⟨rfl, hb5⟩
  have g5 := g4.trans (hb5.mono g4.size)
  have g6 := g5.alloc g5.size (.cells #[.int .i64 0, .int .u32 0] 33)
  go_wp2_with fail
  refine (HR2.out _ (hB.below g6)).mono ?_
  rintro e w7 ⟨rfl, hb7⟩
  have g7 := g6.trans (hb7.mono g6.size)
  have c0 := (hb7.cell (p := ⟨w5.heap.size, 0, none⟩) (by simp)).trans (box_cells w5 (.int .i64 0) (.int .u32 0) 33).1
  have c1 := (hb7.cell (p := ⟨w5.heap.size, 1, none⟩) (by simp)).trans (box_cells w5 (.int .i64 0) (.int .u32 0) 33).2
  have hlt7 : w5.heap.size < w7.heap.size := by have := hb7.size; simp at this; omega
  have c0' := fun o => ((below_box w7 o).cell (p := ⟨w5.heap.size, 0, none⟩) hlt7).trans c0
  have c1' := fun o => ((below_box w7 o).cell (p := ⟨w5.heap.size, 1, none⟩) hlt7).trans c1
  have d0' := c0' (.cells #[.int .i64 0, .int .u32 0] 33)
  have d1' := c1' (.cells #[.int .i64 0, .int .u32 0] 33)
  clear hb5 hb7 hlt7 c0 c1 c0' c1'
  go_wp2_with fail
  refine (HC1.out _).mono ?_
  rintro e w' ⟨rfl, rfl⟩
  go_wp2_with fail
  refine (HC2.out _).mono ?_
  rintro e w' ⟨rfl, rfl⟩
  go_wp2_with fail
  refine (HD1.out _).mono ?_
  rintro e w' ⟨rfl, rfl⟩
  go_wp2_with fail
  refine (HD2.out _).mono ?_
  rintro e w' ⟨rfl, rfl⟩
  go_wp2_with fail
  refine (knows_any _).mono ?_
  rintro e w8 ⟨rfl, hb8⟩
  go_wp2_with fail
  go_ret
  have g8 := g7.alloc g7.size (.cells #[.int .i64 0, .int .u32 0] 33)
  exact ⟨rfl, g8.trans (hb8.mono g8.size)⟩

set_option maxRecDepth 100000 in
set_option maxHeartbeats 2000000 in
theorem fl_ny (id0 : Int) (n0 : Nat) (id : Int) (A : Option Addr) (b : List UInt8) (c : Nat) (d : Nat) (code : Int) (w : World) (hf : (⟨id0, n0⟩ : Fil).ok) (hB : Bytes w A b) (hd : d < 4294967296) (h1 : b.length ≤ 20) (hbl : bytesL ⟨id0, n0⟩ = none) (gi : Int) (gn : Nat) (hrd : readL id b = some ⟨gi, gn⟩) (_hgn : gn < 4294967296) :
    Calls Try.prog 4 #[.agg #[.int .i64 id0, .int .u32 (n0 : Nat)], .int .i64 id, .slice A b.length c, .int .u32 (d : Nat), .int .i64 code] w (Holds w) := by
  have hbx := below_box w (.cells #[.int .i64 id0, .int .u32 (n0 : Nat)] 33)
  have h1' : (b.length : Int) ≤ 20 := by omega
  have HC1 := Lib.hid (code_any d hd)
  have HC2 := Lib.hid (rcodeN_any d hd)
  have HD1 : Hid (∀ w, Calls Try.prog 18 #[.int .i64 code] w fun e w' => e = .returned (.int .u32 (codeOf code : Nat)) ∧ w = w') := Lib.hid (fun w => dict_any code w)
  have HD2 : Hid (∀ w, Calls Try.prog 19 #[.int .i64 code] w fun e w' => e = .returned (.int .u64 (codeOf code : Nat)) ∧ w = w') := Lib.hid (fun w => rdict_any code w)
  have hcl := codeOf_lt code
  generalize codeOf code = K at *
  generalize codeN d = C at *
  have HB1 := Lib.hid (cbytes_any ⟨id0, n0⟩ hf)
  have HB2 := Lib.hid (rbytes_any ⟨id0, n0⟩ hf)
  have HR1 := Lib.hid (fun (w' : World) (h : Bytes w' A b) => cread_any id A b c w' h)
  have HR2 := Lib.hid (fun (w' : World) (h : Bytes w' A b) => rread_any id A b c w' h)
  rw [hbl] at HB1 HB2
  rw [hrd] at HR1 HR2
  simp only [Fil.agg] at HB1 HB2
  obtain ⟨o1, o2, o3⟩ := hf
  simp only at o1 o2 o3
  clear hbl hrd
  go_enter Try.func4, Try.ntmps4
  go_wp2_with fail
  refine (HB1.out _).mono ?_
  rintro e w1 ⟨rfl, hb1⟩
  have g1 := hbx.trans (hb1.mono hbx.size)
  have k0 := (hb1.cell (p := ⟨w.heap.size, 0, none⟩) (by simp)).trans (box_cells w (.int .i64 id0) (.int .u32 (n0 : Nat)) 33).1
  have k1 := (hb1.cell (p := ⟨w.heap.size, 1, none⟩) (by simp)).trans (box_cells w (.int .i64 id0) (.int .u32 (n0 : Nat)) 33).2
  clear hb1
  go_wp2_with fail
  refine (HB2.out _).mono ?_
  rintro e w2 ⟨rfl, hb2⟩
  have g2 := g1.trans (hb2.mono g1.size)
  have s1 : (convert 23 9 (.slice none 0 0)).run Try.prog w2 = .ok (.string ⟨#[]⟩) w2 := run_str (Bytes.nil (w := w2) (A := none)) 0
  clear hb2 k0 k1
  go_wp2_with fail
  refine (HR1.out _ (hB.below g2)).mono ?_
  rintro e w5 ⟨rfl, hb5⟩
  have g5 := g2.trans (hb5.mono g2.size)
  have g6 := g5.alloc g5.size (.cells #[.int .i64 gi, .int .u32 (gn : Nat)] 33)
  go_wp2_with fail
  refine (HR2.out _ (hB.below g6)).mono ?_
  rintro e w7 ⟨rfl, hb7⟩
  have g7 := g6.trans (hb7.mono g6.size)
  have c0 := (hb7.cell (p := ⟨w5.heap.size, 0, none⟩) (by simp)).trans (box_cells w5 (.int .i64 gi) (.int .u32 (gn : Nat)) 33).1
  have c1 := (hb7.cell (p := ⟨w5.heap.size, 1, none⟩) (by simp)).trans (box_cells w5 (.int .i64 gi) (.int .u32 (gn : Nat)) 33).2
  have hlt7 : w5.heap.size < w7.heap.size := by have := hb7.size; simp at this; omega
  have c0' := fun o => ((below_box w7 o).cell (p := ⟨w5.heap.size, 0, none⟩) hlt7).trans c0
  have c1' := fun o => ((below_box w7 o).cell (p := ⟨w5.heap.size, 1, none⟩) hlt7).trans c1
  have d0' := c0' (.cells #[.int .i64 gi, .int .u32 (gn : Nat)] 33)
  have d1' := c1' (.cells #[.int .i64 gi, .int .u32 (gn : Nat)] 33)
  clear hb5 hb7 hlt7 c0 c1 c0' c1'
  go_wp2_with fail
  refine (HC1.out _).mono ?_
  rintro e w' ⟨rfl, rfl⟩
  go_wp2_with fail
  refine (HC2.out _).mono ?_
  rintro e w' ⟨rfl, rfl⟩
  go_wp2_with fail
  refine (HD1.out _).mono ?_
  rintro e w' ⟨rfl, rfl⟩
  go_wp2_with fail
  refine (HD2.out _).mono ?_
  rintro e w' ⟨rfl, rfl⟩
  go_wp2_with fail
  refine (knows_any _).mono ?_
  rintro e w8 ⟨rfl, hb8⟩
  go_wp2_with fail
  go_ret
  have g8 := g7.alloc g7.size (.cells #[.int .i64 gi, .int .u32 (gn : Nat)] 33)
  exact ⟨rfl, g8.trans (hb8.mono g8.size)⟩

set_option maxRecDepth 100000 in
set_option maxHeartbeats 2000000 in
theorem fl_nn (id0 : Int) (n0 : Nat) (id : Int) (A : Option Addr) (b : List UInt8) (c : Nat) (d : Nat) (code : Int) (w : World) (hf : (⟨id0, n0⟩ : Fil).ok) (hB : Bytes w A b) (hd : d < 4294967296) (h1 : b.length ≤ 20) (hbl : bytesL ⟨id0, n0⟩ = none) (hrd : readL id b = none) :
    Calls Try.prog 4 #[.agg #[.int .i64 id0, .int .u32 (n0 : Nat)], .int .i64 id, .slice A b.length c, .int .u32 (d : Nat), .int .i64 code] w (Holds w) := by
  have hbx := below_box w (.cells #[.int .i64 id0, .int .u32 (n0 : Nat)] 33)
  have h1' : (b.length : Int) ≤ 20 := by omega
  have HC1 := Lib.hid (code_any d hd)
  have HC2 := Lib.hid (rcodeN_any d hd)
  have HD1 : Hid (∀ w, Calls Try.prog 18 #[.int .i64 code] w fun e w' => e = .returned (.int .u32 (codeOf code : Nat)) ∧ w = w') := Lib.hid (fun w => dict_any code w)
  have HD2 : Hid (∀ w, Calls Try.prog 19 #[.int .i64 code] w fun e w' => e = .returned (.int .u64 (codeOf code : Nat)) ∧ w = w') := Lib.hid (fun w => rdict_any code w)
  have hcl := codeOf_lt code
  generalize codeOf code = K at *
  generalize codeN d = C at *
  have HB1 := Lib.hid (cbytes_any ⟨id0, n0⟩ hf)
  have HB2 := Lib.hid (rbytes_any ⟨id0, n0⟩ hf)
  have HR1 := Lib.hid (fun (w' : World) (h : Bytes w' A b) => cread_any id A b c w' h)
  have HR2 := Lib.hid (fun (w' : World) (h : Bytes w' A b) => rread_any id A b c w' h)
  rw [hbl] at HB1 HB2
  rw [hrd] at HR1 HR2
  simp only [Fil.agg] at HB1 HB2
  obtain ⟨o1, o2, o3⟩ := hf
  simp only at o1 o2 o3
  clear hbl hrd
  go_enter Try.func4, Try.ntmps4
  go_wp2_with fail
  refine (HB1.out _).mono ?_
  rintro e w1 ⟨rfl, hb1⟩
  have g1 := hbx.trans (hb1.mono hbx.size)
  have k0 := (hb1.cell (p := ⟨w.heap.size, 0, none⟩) (by simp)).trans (box_cells w (.int .i64 id0) (.int .u32 (n0 : Nat)) 33).1
  have k1 := (hb1.cell (p := ⟨w.heap.size, 1, none⟩) (by simp)).trans (box_cells w (.int .i64 id0) (.int .u32 (n0 : Nat)) 33).2
  clear hb1
  go_wp2_with fail
  refine (HB2.out _).mono ?_
  rintro e w2 ⟨rfl, hb2⟩
  have g2 := g1.trans (hb2.mono g1.size)
  have s1 : (convert 23 9 (.slice none 0 0)).run Try.prog w2 = .ok (.string ⟨#[]⟩) w2 := run_str (Bytes.nil (w := w2) (A := none)) 0
  clear hb2 k0 k1
  go_wp2_with fail
  refine (HR1.out _ (hB.below g2)).mono ?_
  rintro e w5 ⟨rfl, hb5⟩
  have g5 := g2.trans (hb5.mono g2.size)
  have g6 := g5.alloc g5.size (.cells #[.int .i64 0, .int .u32 0] 33)
  go_wp2_with fail
  refine (HR2.out _ (hB.below g6)).mono ?_
  rintro e w7 ⟨rfl, hb7⟩
  have g7 := g6.trans (hb7.mono g6.size)
  have c0 := (hb7.cell (p := ⟨w5.heap.size, 0, none⟩) (by simp)).trans (box_cells w5 (.int .i64 0) (.int .u32 0) 33).1
  have c1 := (hb7.cell (p := ⟨w5.heap.size, 1, none⟩) (by simp)).trans (box_cells w5 (.int .i64 0) (.int .u32 0) 33).2
  have hlt7 : w5.heap.size < w7.heap.size := by have := hb7.size; simp at this; omega
  have c0' := fun o => ((below_box w7 o).cell (p := ⟨w5.heap.size, 0, none⟩) hlt7).trans c0
  have c1' := fun o => ((below_box w7 o).cell (p := ⟨w5.heap.size, 1, none⟩) hlt7).trans c1
  have d0' := c0' (.cells #[.int .i64 0, .int .u32 0] 33)
  have d1' := c1' (.cells #[.int .i64 0, .int .u32 0] 33)
  clear hb5 hb7 hlt7 c0 c1 c0' c1'
  go_wp2_with fail
  refine (HC1.out _).mono ?_
  rintro e w' ⟨rfl, rfl⟩
  go_wp2_with fail
  refine (HC2.out _).mono ?_
  rintro e w' ⟨rfl, rfl⟩
  go_wp2_with fail
  refine (HD1.out _).mono ?_
  rintro e w' ⟨rfl, rfl⟩
  go_wp2_with fail
  refine (HD2.out _).mono ?_
  rintro e w' ⟨rfl, rfl⟩
  go_wp2_with fail
  refine (knows_any _).mono ?_
  rintro e w8 ⟨rfl, hb8⟩
  go_wp2_with fail
  go_ret
  have g8 := g7.alloc g7.size (.cells #[.int .i64 0, .int .u32 0] 33)
  exact ⟨rfl, g8.trans (hb8.mono g8.size)⟩

set_option maxRecDepth 100000 in
set_option maxHeartbeats 400000 in
theorem fl_long (f : Fil) (id : Int) (A : Option Addr) (n c : Nat) (d : Nat) (code : Int) (w : World) (h1 : 20 < n) :
    Calls Try.prog 4 #[f.agg, .int .i64 id, .slice A n c, .int .u32 (d : Nat), .int .i64 code] w (Holds w) := by
  obtain ⟨id0, n0⟩ := f
  have hbx := below_box w (.cells #[.int .i64 id0, .int .u32 (n0 : Nat)] 33)
  have h1' : (20 : Int) < n := by omega
  go_enter Try.func4, Try.ntmps4
  go_wp2_with fail
  refine (knows_any _).mono ?_
  rintro e w8 ⟨rfl, hb8⟩
  go_wp2_with fail
  go_ret
  exact ⟨rfl, hbx.trans (hb8.mono hbx.size)⟩
theorem filters_law (f : Fil) (id : Int) (A : Option Addr) (b : List UInt8) (c : Nat) (d : Nat) (code : Int) (w : World) (hf : f.ok) (_lo : -9223372036854775808 ≤ id) (_hi : id ≤ 9223372036854775807) (hB : Bytes w A b) (_hc : b.length ≤ c) (_hm : c ≤ 9223372036854775807) (hd : d < 4294967296) (_lo2 : -9223372036854775808 ≤ code) (_hi2 : code ≤ 9223372036854775807) :
    Calls Try.prog 4 #[f.agg, .int .i64 id, .slice A b.length c, .int .u32 (d : Nat), .int .i64 code] w (Holds w) := by
  by_cases h1 : 20 < b.length
  · exact fl_long f id A b.length c d code w h1
  have h1' : b.length ≤ 20 := by omega
  obtain ⟨id0, n0⟩ := f
  cases hbl : bytesL ⟨id0, n0⟩ with
  | some l =>
    have hback := read_bytes ⟨id0, n0⟩ hf l hbl
    cases hrd : readL id b with
    | some g => exact fl_yy id0 n0 id A b c d code w hf hB hd h1' l hbl hback g.id g.n hrd (readL_lt id b g hrd)
    | none => exact fl_yn id0 n0 id A b c d code w hf hB hd h1' l hbl hback hrd
  | none =>
    cases hrd : readL id b with
    | some g => exact fl_ny id0 n0 id A b c d code w hf hB hd h1' hbl g.id g.n hrd (readL_lt id b g hrd)
    | none => exact fl_nn id0 n0 id A b c d code w hf hB hd h1' hbl hrd
end Go.Proofs.Ytflklbnebljnmaa
