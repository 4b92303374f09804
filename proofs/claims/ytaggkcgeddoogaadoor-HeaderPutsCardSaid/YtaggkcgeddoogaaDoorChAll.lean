/- Several texts in one: ChBytes, ChRBytes, ChRd0, HdMore. -/
import Derived.Test.YtaggkcgeddoogaaDoorHdDict
import Derived.Deep.RegionHeld3
/- Filters' bytes: chain's Bytes, and the reference's. -/
namespace Go.Proofs.YtaggkcgeddoogaaDoor
open Go.RowKit

/-- A filter's bytes. -/
def bytesL (f : Fil) : Option (List UInt8) :=
  if f.id = 33 then (if dictN (codeN f.n) = f.n then some [UInt8.ofNat (codeN f.n)] else none)
  else if fitB f = true then (if f.id = 3 then some [UInt8.ofNat (f.n - 1)] else if f.n = 0 then some [] else some (bytesOf true f.n)) else none
def GivesT (w : World) (l : List UInt8) (tag : Value) (e : Ending) (w' : World) : Prop := ∃ v, e = .returned (.tuple #[v, tag]) ∧ Own w.heap.size w' v l ∧ Below w.heap.size w w'
def NoneT (w : World) (tag : Value) (e : Ending) (w' : World) : Prop := e = .returned (.tuple #[.slice none 0 0, tag]) ∧ Below w.heap.size w w'
def OutO (w : World) (yes no : Value) (r : Option (List UInt8)) : Ending → World → Prop :=
  match r with
  | some l => GivesT w l yes
  | none => NoneT w no
theorem box_cells (w : World) (a b : Value) (T : TypeId) : (w.alloc (.cells #[a, b] T)).drew.cell? ⟨w.heap.size, 0, none⟩ = some a ∧ (w.alloc (.cells #[a, b] T)).drew.cell? ⟨w.heap.size, 1, none⟩ = some b := by
  constructor
  · show (w.alloc (.cells #[a, b] T)).cell? ⟨w.heap.size, 0, none⟩ = some a
    rw [cell_of_row _ _ _ _ _ _ (heap_alloc_last _ _)]; rfl
  · show (w.alloc (.cells #[a, b] T)).cell? ⟨w.heap.size, 1, none⟩ = some b
    rw [cell_of_row _ _ _ _ _ _ (heap_alloc_last _ _)]; rfl
theorem lit1 (w : World) (k base : Nat) (hk : k < 256) (hb : base ≤ w.heap.size) : Own base (w.alloc (.cells #[.int .u8 (k : Nat)] 5)) (.slice (some ⟨w.heap.size, 0, none⟩) 1 1) [UInt8.ofNat k] := by
  have h := Own.lit w [UInt8.ofNat k] hb (by simp)
  have e : ((UInt8.ofNat k).toNat : Nat) = k := by simp; omega
  simp only [List.map, B8, e] at h
  exact h
theorem fit33 (n : Nat) : fitB ⟨33, n⟩ = false := by simp [fitB, mayB]

set_option maxRecDepth 100000 in
set_option maxHeartbeats 1000000 in
theorem cbytes_33 (n : Nat) (hn : n < 4294967296) (h : dictN (codeN n) = n) (w : World) :
    Calls Tryd.prog 17 #[.agg #[.int .i64 33, .int .u32 (n : Nat)]] w (GivesT w [UInt8.ofNat (codeN n)] (.int .i64 0)) := by
  have hb := below_box w
  have HCO := Lib.hid (code_any n hn)
  have hle := codeN_le n
  have HDI := Lib.hid (dict_small (codeN n) hle)
  rw [h] at HDI
  generalize codeN n = C at *
  clear h
  go_enter Tryd.func17, Tryd.ntmps17
  go_wp2_with fail
  refine wp_region_held_drew (S := fun w' => w'.cell? ⟨w.heap.size, 0, none⟩ = some (.int .i64 33) ∧ w'.cell? ⟨w.heap.size, 1, none⟩ = some (.int .u32 (n : Nat))) (by kernel_rfl) (box_cells w _ _ _) (fun hS => ?_)
  refine wpAnyH_take (i := 0) (oi := { dst := some 21, op := Op.fieldAddr 48 (Operand.tmp 1) 0, type := 0, pos := "chain.go:63", after := #[], guard := none }) (v := ?va1) rfl (by kernel_rfl) (by kernel_rfl) (by kernel_rfl) (fun _ _ _ h => h) (Or.inl ⟨by rfl, ?ya1⟩) hS ?_
  case ya1 =>
    intro w hSw
    go_simp; all_goals (with_reducible rfl)
  simp only [Act.put, List.setIfInBounds_toArray, List.set_cons_zero, List.set_cons_succ]
  refine wpAnyH_take (i := 1) (oi := { dst := some 22, op := Op.load 3 (Operand.tmp 21), type := 3, pos := "chain.go:63", after := #[{ on := 0, ground := Ground.data }], guard := none }) (v := ?va2) rfl (by kernel_rfl) (by kernel_rfl) (by kernel_rfl) (fun _ _ _ h => h) (Or.inl ⟨by rfl, ?ya2⟩) hS ?_
  case ya2 =>
    intro w hSw
    obtain ⟨j0, j1⟩ := hSw
    go_simp; all_goals (with_reducible rfl)
  simp only [Act.put, List.setIfInBounds_toArray, List.set_cons_zero, List.set_cons_succ]
  refine wpAnyH_take (i := 2) (oi := { dst := some 23, op := Op.binOp BinOp.eql 3 (Operand.tmp 22) (Operand.const (Value.int IntKind.i64 33)) 3, type := 4, pos := "chain.go:63", after := #[{ on := 1, ground := Ground.data }], guard := none }) (v := ?va3) rfl (by kernel_rfl) (by kernel_rfl) (by kernel_rfl) (fun _ _ _ h => h) (Or.inl ⟨by rfl, ?ya3⟩) hS ?_
  case ya3 =>
    intro w hSw
    go_simp; all_goals (with_reducible rfl)
  simp only [Act.put, List.setIfInBounds_toArray, List.set_cons_zero, List.set_cons_succ]
  refine wpAnyH_take (i := 3) (oi := { dst := some 24, op := Op.move (Operand.tmp 23), type := 4, pos := "chain.go:63", after := #[{ on := 2, ground := Ground.data }], guard := none }) (v := ?va4) rfl (by kernel_rfl) (by kernel_rfl) (by kernel_rfl) (fun _ _ _ h => h) (Or.inl ⟨by rfl, ?ya4⟩) hS ?_
  case ya4 =>
    intro w hSw
    go_simp; all_goals (with_reducible rfl)
  simp only [Act.put, List.setIfInBounds_toArray, List.set_cons_zero, List.set_cons_succ]
  refine wpAnyH_take (i := 4) (oi := { dst := some 25, op := Op.fieldAddr 48 (Operand.tmp 1) 1, type := 0, pos := "chain.go:63", after := #[{ on := 3, ground := Ground.guard }], guard := some (3, true) }) (v := ?va5) rfl (by kernel_rfl) (by kernel_rfl) (by kernel_rfl) (fun _ _ _ h => h) (Or.inl ⟨by rfl, ?ya5⟩) hS ?_
  case ya5 =>
    intro w hSw
    go_simp; all_goals (with_reducible rfl)
  simp only [Act.put, List.setIfInBounds_toArray, List.set_cons_zero, List.set_cons_succ]
  refine wpAnyH_take (i := 5) (oi := { dst := some 26, op := Op.load 23 (Operand.tmp 25), type := 23, pos := "chain.go:63", after := #[{ on := 4, ground := Ground.data }, { on := 3, ground := Ground.guard }], guard := some (3, true) }) (v := ?va6) rfl (by kernel_rfl) (by kernel_rfl) (by kernel_rfl) (fun _ _ _ h => h) (Or.inl ⟨by rfl, ?ya6⟩) hS ?_
  case ya6 =>
    intro w hSw
    obtain ⟨j0, j1⟩ := hSw
    go_simp; all_goals (with_reducible rfl)
  simp only [Act.put, List.setIfInBounds_toArray, List.set_cons_zero, List.set_cons_succ]
  refine wpAnyH_take (i := 8) (oi := { dst := some 29, op := Op.fieldAddr 48 (Operand.tmp 1) 1, type := 0, pos := "chain.go:63", after := #[{ on := 3, ground := Ground.guard }], guard := some (3, true) }) (v := ?va7) rfl (by kernel_rfl) (by kernel_rfl) (by kernel_rfl) (fun _ _ _ h => h) (Or.inl ⟨by rfl, ?ya7⟩) hS ?_
  case ya7 =>
    intro w hSw
    go_simp; all_goals (with_reducible rfl)
  simp only [Act.put, List.setIfInBounds_toArray, List.set_cons_zero, List.set_cons_succ]
  refine wpAnyH_take (i := 9) (oi := { dst := some 30, op := Op.load 23 (Operand.tmp 29), type := 23, pos := "chain.go:63", after := #[{ on := 8, ground := Ground.data }, { on := 3, ground := Ground.guard }], guard := some (3, true) }) (v := ?va8) rfl (by kernel_rfl) (by kernel_rfl) (by kernel_rfl) (fun _ _ _ h => h) (Or.inl ⟨by rfl, ?ya8⟩) hS ?_
  case ya8 =>
    intro w hSw
    obtain ⟨j0, j1⟩ := hSw
    go_simp; all_goals (with_reducible rfl)
  simp only [Act.put, List.setIfInBounds_toArray, List.set_cons_zero, List.set_cons_succ]
  refine wpAnyH_ready (rs := [6]) (by kernel_rfl) (by simp) ?_
  refine (AllReadyH.cons (o := { dst := some 27, op := Op.call { callee := Callee.value (Operand.func 34), args := #[Operand.tmp 26], argTypes := #[23] }, type := 3, pos := "chain.go:63", after := #[{ on := 5, ground := Ground.data }, { on := 3, ground := Ground.chain }, { on := 3, ground := Ground.guard }], guard := some (3, true) }) rfl (fun K hK => ?_) AllReadyH.nil)
  go_simp
  refine (HCO.out _).mono ?_
  rintro e w' ⟨rfl, rfl⟩
  go_wp2_with fail
  refine hK.out _ _ hS (fun _ => ?_)
  clear hK K
  refine wpAnyH_ready (rs := [7]) (by kernel_rfl) (by simp) ?_
  refine (AllReadyH.cons (o := { dst := some 28, op := Op.call { callee := Callee.value (Operand.func 33), args := #[Operand.tmp 27], argTypes := #[3] }, type := 23, pos := "chain.go:63", after := #[{ on := 6, ground := Ground.data }, { on := 6, ground := Ground.chain }, { on := 3, ground := Ground.guard }], guard := some (3, true) }) rfl (fun K hK => ?_) AllReadyH.nil)
  go_simp
  refine (HDI.out _).mono ?_
  rintro e w' ⟨rfl, rfl⟩
  go_wp2_with fail
  refine hK.out _ _ hS (fun _ => ?_)
  clear hK K
  refine wpAnyH_take (i := 10) (oi := { dst := some 31, op := Op.binOp BinOp.eql 23 (Operand.tmp 28) (Operand.tmp 30) 23, type := 4, pos := "chain.go:63", after := #[{ on := 7, ground := Ground.data }, { on := 9, ground := Ground.data }, { on := 3, ground := Ground.guard }], guard := some (3, true) }) (v := ?va9) rfl (by kernel_rfl) (by kernel_rfl) (by kernel_rfl) (fun _ _ _ h => h) (Or.inl ⟨by rfl, ?ya9⟩) hS ?_
  case ya9 =>
    intro w hSw
    go_simp; all_goals (with_reducible rfl)
  simp only [Act.put, List.setIfInBounds_toArray, List.set_cons_zero, List.set_cons_succ]
  refine wpAnyH_take (i := 11) (oi := { dst := some 32, op := Op.pick (Operand.tmp 24) (Operand.tmp 31) (Operand.const (Value.bool false)), type := 4, pos := "chain.go:63", after := #[{ on := 3, ground := Ground.data }, { on := 10, ground := Ground.data }], guard := none }) (v := ?va10) rfl (by kernel_rfl) (by kernel_rfl) (by kernel_rfl) (fun _ _ _ h => h) (Or.inl ⟨by rfl, ?ya10⟩) hS ?_
  case ya10 =>
    intro w hSw
    go_simp; all_goals (with_reducible rfl)
  simp only [Act.put, List.setIfInBounds_toArray, List.set_cons_zero, List.set_cons_succ]
  refine wpAnyH_take (i := 12) (oi := { dst := some 20, op := Op.assign (Operand.tmp 32), type := 4, pos := "chain.go:63", after := #[{ on := 11, ground := Ground.data }, { on := 7, ground := Ground.chain }], guard := none }) (v := ?va11) rfl (by kernel_rfl) (by kernel_rfl) (by kernel_rfl) (fun _ _ _ h => h) (Or.inl ⟨by rfl, ?ya11⟩) hS ?_
  case ya11 =>
    intro w hSw
    go_simp; all_goals (with_reducible rfl)
  simp only [Act.put, List.setIfInBounds_toArray, List.set_cons_zero, List.set_cons_succ]
  refine wpAnyH_done (by kernel_rfl) ?_ _
  go_wp2_with fail
  refine (HCO.out _).mono ?_
  rintro e w' ⟨rfl, rfl⟩
  go_wp2_with fail
  go_ret2
  have g := hb (.cells #[.int .i64 33, .int .u32 (n : Nat)] 48)
  have e : (w.alloc (.cells #[.int .i64 33, .int .u32 (n : Nat)] 48)).heap.size = w.heap.size + 1 := by simp
  have h := lit1 (w.alloc (.cells #[.int .i64 33, .int .u32 (n : Nat)] 48)) C w.heap.size (by omega) g.size
  rw [e] at h
  exact ⟨_, rfl, h.drew, (g.alloc g.size _).drew⟩
set_option maxRecDepth 100000 in
set_option maxHeartbeats 1000000 in
theorem cbytes_33no (n : Nat) (hn : n < 4294967296) (h : dictN (codeN n) ≠ n) (w : World) :
    Calls Tryd.prog 17 #[.agg #[.int .i64 33, .int .u32 (n : Nat)]] w (NoneT w (.int .i64 1)) := by
  have hb := below_box w
  have HCO := Lib.hid (code_any n hn)
  have hle := codeN_le n
  have HDI := Lib.hid (dict_small (codeN n) hle)
  have HF := Lib.hid (fmay_any ⟨33, n⟩ ⟨by simp, by simp, hn⟩)
  rw [fit33] at HF
  simp only [Fil.agg] at HF
  generalize codeN n = C at *
  have hdl := dictN_lt C
  have hne : ((dictN C : Int) == (n : Int)) = false := by simp; omega
  generalize dictN C = D at *
  clear h
  go_enter Tryd.func17, Tryd.ntmps17
  go_wp2_with fail
  refine wp_region_held_drew (S := fun w' => w'.cell? ⟨w.heap.size, 0, none⟩ = some (.int .i64 33) ∧ w'.cell? ⟨w.heap.size, 1, none⟩ = some (.int .u32 (n : Nat))) (by kernel_rfl) (box_cells w _ _ _) (fun hS => ?_)
  refine wpAnyH_take (i := 0) (oi := { dst := some 21, op := Op.fieldAddr 48 (Operand.tmp 1) 0, type := 0, pos := "chain.go:63", after := #[], guard := none }) (v := ?vb12) rfl (by kernel_rfl) (by kernel_rfl) (by kernel_rfl) (fun _ _ _ h => h) (Or.inl ⟨by rfl, ?yb12⟩) hS ?_
  case yb12 =>
    intro w hSw
    go_simp; all_goals (with_reducible rfl)
  simp only [Act.put, List.setIfInBounds_toArray, List.set_cons_zero, List.set_cons_succ]
  refine wpAnyH_take (i := 1) (oi := { dst := some 22, op := Op.load 3 (Operand.tmp 21), type := 3, pos := "chain.go:63", after := #[{ on := 0, ground := Ground.data }], guard := none }) (v := ?vb13) rfl (by kernel_rfl) (by kernel_rfl) (by kernel_rfl) (fun _ _ _ h => h) (Or.inl ⟨by rfl, ?yb13⟩) hS ?_
  case yb13 =>
    intro w hSw
    obtain ⟨j0, j1⟩ := hSw
    go_simp; all_goals (with_reducible rfl)
  simp only [Act.put, List.setIfInBounds_toArray, List.set_cons_zero, List.set_cons_succ]
  refine wpAnyH_take (i := 2) (oi := { dst := some 23, op := Op.binOp BinOp.eql 3 (Operand.tmp 22) (Operand.const (Value.int IntKind.i64 33)) 3, type := 4, pos := "chain.go:63", after := #[{ on := 1, ground := Ground.data }], guard := none }) (v := ?vb14) rfl (by kernel_rfl) (by kernel_rfl) (by kernel_rfl) (fun _ _ _ h => h) (Or.inl ⟨by rfl, ?yb14⟩) hS ?_
  case yb14 =>
    intro w hSw
    go_simp; all_goals (with_reducible rfl)
  simp only [Act.put, List.setIfInBounds_toArray, List.set_cons_zero, List.set_cons_succ]
  refine wpAnyH_take (i := 3) (oi := { dst := some 24, op := Op.move (Operand.tmp 23), type := 4, pos := "chain.go:63", after := #[{ on := 2, ground := Ground.data }], guard := none }) (v := ?vb15) rfl (by kernel_rfl) (by kernel_rfl) (by kernel_rfl) (fun _ _ _ h => h) (Or.inl ⟨by rfl, ?yb15⟩) hS ?_
  case yb15 =>
    intro w hSw
    go_simp; all_goals (with_reducible rfl)
  simp only [Act.put, List.setIfInBounds_toArray, List.set_cons_zero, List.set_cons_succ]
  refine wpAnyH_take (i := 4) (oi := { dst := some 25, op := Op.fieldAddr 48 (Operand.tmp 1) 1, type := 0, pos := "chain.go:63", after := #[{ on := 3, ground := Ground.guard }], guard := some (3, true) }) (v := ?vb16) rfl (by kernel_rfl) (by kernel_rfl) (by kernel_rfl) (fun _ _ _ h => h) (Or.inl ⟨by rfl, ?yb16⟩) hS ?_
  case yb16 =>
    intro w hSw
    go_simp; all_goals (with_reducible rfl)
  simp only [Act.put, List.setIfInBounds_toArray, List.set_cons_zero, List.set_cons_succ]
  refine wpAnyH_take (i := 5) (oi := { dst := some 26, op := Op.load 23 (Operand.tmp 25), type := 23, pos := "chain.go:63", after := #[{ on := 4, ground := Ground.data }, { on := 3, ground := Ground.guard }], guard := some (3, true) }) (v := ?vb17) rfl (by kernel_rfl) (by kernel_rfl) (by kernel_rfl) (fun _ _ _ h => h) (Or.inl ⟨by rfl, ?yb17⟩) hS ?_
  case yb17 =>
    intro w hSw
    obtain ⟨j0, j1⟩ := hSw
    go_simp; all_goals (with_reducible rfl)
  simp only [Act.put, List.setIfInBounds_toArray, List.set_cons_zero, List.set_cons_succ]
  refine wpAnyH_take (i := 8) (oi := { dst := some 29, op := Op.fieldAddr 48 (Operand.tmp 1) 1, type := 0, pos := "chain.go:63", after := #[{ on := 3, ground := Ground.guard }], guard := some (3, true) }) (v := ?vb18) rfl (by kernel_rfl) (by kernel_rfl) (by kernel_rfl) (fun _ _ _ h => h) (Or.inl ⟨by rfl, ?yb18⟩) hS ?_
  case yb18 =>
    intro w hSw
    go_simp; all_goals (with_reducible rfl)
  simp only [Act.put, List.setIfInBounds_toArray, List.set_cons_zero, List.set_cons_succ]
  refine wpAnyH_take (i := 9) (oi := { dst := some 30, op := Op.load 23 (Operand.tmp 29), type := 23, pos := "chain.go:63", after := #[{ on := 8, ground := Ground.data }, { on := 3, ground := Ground.guard }], guard := some (3, true) }) (v := ?vb19) rfl (by kernel_rfl) (by kernel_rfl) (by kernel_rfl) (fun _ _ _ h => h) (Or.inl ⟨by rfl, ?yb19⟩) hS ?_
  case yb19 =>
    intro w hSw
    obtain ⟨j0, j1⟩ := hSw
    go_simp; all_goals (with_reducible rfl)
  simp only [Act.put, List.setIfInBounds_toArray, List.set_cons_zero, List.set_cons_succ]
  refine wpAnyH_ready (rs := [6]) (by kernel_rfl) (by simp) ?_
  refine (AllReadyH.cons (o := { dst := some 27, op := Op.call { callee := Callee.value (Operand.func 34), args := #[Operand.tmp 26], argTypes := #[23] }, type := 3, pos := "chain.go:63", after := #[{ on := 5, ground := Ground.data }, { on := 3, ground := Ground.chain }, { on := 3, ground := Ground.guard }], guard := some (3, true) }) rfl (fun K hK => ?_) AllReadyH.nil)
  go_simp
  refine (HCO.out _).mono ?_
  rintro e w' ⟨rfl, rfl⟩
  go_wp2_with fail
  refine hK.out _ _ hS (fun _ => ?_)
  clear hK K
  refine wpAnyH_ready (rs := [7]) (by kernel_rfl) (by simp) ?_
  refine (AllReadyH.cons (o := { dst := some 28, op := Op.call { callee := Callee.value (Operand.func 33), args := #[Operand.tmp 27], argTypes := #[3] }, type := 23, pos := "chain.go:63", after := #[{ on := 6, ground := Ground.data }, { on := 6, ground := Ground.chain }, { on := 3, ground := Ground.guard }], guard := some (3, true) }) rfl (fun K hK => ?_) AllReadyH.nil)
  go_simp
  refine (HDI.out _).mono ?_
  rintro e w' ⟨rfl, rfl⟩
  go_wp2_with fail
  refine hK.out _ _ hS (fun _ => ?_)
  clear hK K
  refine wpAnyH_take (i := 10) (oi := { dst := some 31, op := Op.binOp BinOp.eql 23 (Operand.tmp 28) (Operand.tmp 30) 23, type := 4, pos := "chain.go:63", after := #[{ on := 7, ground := Ground.data }, { on := 9, ground := Ground.data }, { on := 3, ground := Ground.guard }], guard := some (3, true) }) (v := ?vb20) rfl (by kernel_rfl) (by kernel_rfl) (by kernel_rfl) (fun _ _ _ h => h) (Or.inl ⟨by rfl, ?yb20⟩) hS ?_
  case yb20 =>
    intro w hSw
    go_simp; all_goals (with_reducible rfl)
  simp only [Act.put, List.setIfInBounds_toArray, List.set_cons_zero, List.set_cons_succ]
  refine wpAnyH_take (i := 11) (oi := { dst := some 32, op := Op.pick (Operand.tmp 24) (Operand.tmp 31) (Operand.const (Value.bool false)), type := 4, pos := "chain.go:63", after := #[{ on := 3, ground := Ground.data }, { on := 10, ground := Ground.data }], guard := none }) (v := ?vb21) rfl (by kernel_rfl) (by kernel_rfl) (by kernel_rfl) (fun _ _ _ h => h) (Or.inl ⟨by rfl, ?yb21⟩) hS ?_
  case yb21 =>
    intro w hSw
    go_simp; all_goals (with_reducible rfl)
  simp only [Act.put, List.setIfInBounds_toArray, List.set_cons_zero, List.set_cons_succ]
  refine wpAnyH_take (i := 12) (oi := { dst := some 20, op := Op.assign (Operand.tmp 32), type := 4, pos := "chain.go:63", after := #[{ on := 11, ground := Ground.data }, { on := 7, ground := Ground.chain }], guard := none }) (v := ?vb22) rfl (by kernel_rfl) (by kernel_rfl) (by kernel_rfl) (fun _ _ _ h => h) (Or.inl ⟨by rfl, ?yb22⟩) hS ?_
  case yb22 =>
    intro w hSw
    go_simp; all_goals (with_reducible rfl)
  simp only [Act.put, List.setIfInBounds_toArray, List.set_cons_zero, List.set_cons_succ]
  refine wpAnyH_done (by kernel_rfl) ?_ _
  go_wp2_with fail
  refine (HF.out _).mono ?_
  rintro e w' ⟨rfl, hb2⟩
  go_wp2_with fail
  go_ret2
  exact ⟨rfl, (hb _).drew.trans (hb2.mono (by simp))⟩
set_option maxRecDepth 100000 in
set_option maxHeartbeats 1000000 in
theorem cbytes_no (id : Int) (n : Nat) (hok : (⟨id, n⟩ : Fil).ok) (h33 : id ≠ 33) (hf : fitB ⟨id, n⟩ = false) (w : World) :
    Calls Tryd.prog 17 #[.agg #[.int .i64 id, .int .u32 (n : Nat)]] w (NoneT w (.int .i64 1)) := by
  have hb := below_box w
  have HF := Lib.hid (fmay_any ⟨id, n⟩ hok)
  rw [hf] at HF
  simp only [Fil.agg] at HF
  obtain ⟨o1, o2, o3⟩ := hok
  simp only at o1 o2 o3
  have hd : (id == 33) = false := by simp [h33]
  clear h33 hf
  go_enter Tryd.func17, Tryd.ntmps17
  go_wp2_with fail
  refine wp_region_held_drew (S := fun w' => w'.cell? ⟨w.heap.size, 0, none⟩ = some (.int .i64 id) ∧ w'.cell? ⟨w.heap.size, 1, none⟩ = some (.int .u32 (n : Nat))) (by kernel_rfl) (box_cells w _ _ _) (fun hS => ?_)
  refine wpAnyH_take (i := 0) (oi := { dst := some 21, op := Op.fieldAddr 48 (Operand.tmp 1) 0, type := 0, pos := "chain.go:63", after := #[], guard := none }) (v := ?vc23) rfl (by kernel_rfl) (by kernel_rfl) (by kernel_rfl) (fun _ _ _ h => h) (Or.inl ⟨by rfl, ?yc23⟩) hS ?_
  case yc23 =>
    intro w hSw
    go_simp; all_goals (with_reducible rfl)
  simp only [Act.put, List.setIfInBounds_toArray, List.set_cons_zero, List.set_cons_succ]
  refine wpAnyH_take (i := 1) (oi := { dst := some 22, op := Op.load 3 (Operand.tmp 21), type := 3, pos := "chain.go:63", after := #[{ on := 0, ground := Ground.data }], guard := none }) (v := ?vc24) rfl (by kernel_rfl) (by kernel_rfl) (by kernel_rfl) (fun _ _ _ h => h) (Or.inl ⟨by rfl, ?yc24⟩) hS ?_
  case yc24 =>
    intro w hSw
    obtain ⟨j0, j1⟩ := hSw
    go_simp; all_goals (with_reducible rfl)
  simp only [Act.put, List.setIfInBounds_toArray, List.set_cons_zero, List.set_cons_succ]
  refine wpAnyH_take (i := 2) (oi := { dst := some 23, op := Op.binOp BinOp.eql 3 (Operand.tmp 22) (Operand.const (Value.int IntKind.i64 33)) 3, type := 4, pos := "chain.go:63", after := #[{ on := 1, ground := Ground.data }], guard := none }) (v := ?vc25) rfl (by kernel_rfl) (by kernel_rfl) (by kernel_rfl) (fun _ _ _ h => h) (Or.inl ⟨by rfl, ?yc25⟩) hS ?_
  case yc25 =>
    intro w hSw
    go_simp; all_goals (with_reducible rfl)
  simp only [Act.put, List.setIfInBounds_toArray, List.set_cons_zero, List.set_cons_succ]
  refine wpAnyH_take (i := 3) (oi := { dst := some 24, op := Op.move (Operand.tmp 23), type := 4, pos := "chain.go:63", after := #[{ on := 2, ground := Ground.data }], guard := none }) (v := ?vc26) rfl (by kernel_rfl) (by kernel_rfl) (by kernel_rfl) (fun _ _ _ h => h) (Or.inl ⟨by rfl, ?yc26⟩) hS ?_
  case yc26 =>
    intro w hSw
    go_simp; all_goals (with_reducible rfl)
  simp only [Act.put, List.setIfInBounds_toArray, List.set_cons_zero, List.set_cons_succ]
  refine wpAnyH_take (i := 4) (oi := { dst := some 25, op := Op.fieldAddr 48 (Operand.tmp 1) 1, type := 0, pos := "chain.go:63", after := #[{ on := 3, ground := Ground.guard }], guard := some (3, true) }) (v := undef) rfl (by kernel_rfl) (by kernel_rfl) (by kernel_rfl) (fun _ _ _ h => h) (Or.inr ⟨by rfl, rfl⟩) hS ?_
  simp only [Act.put, List.setIfInBounds_toArray, List.set_cons_zero, List.set_cons_succ]
  refine wpAnyH_take (i := 5) (oi := { dst := some 26, op := Op.load 23 (Operand.tmp 25), type := 23, pos := "chain.go:63", after := #[{ on := 4, ground := Ground.data }, { on := 3, ground := Ground.guard }], guard := some (3, true) }) (v := undef) rfl (by kernel_rfl) (by kernel_rfl) (by kernel_rfl) (fun _ _ _ h => h) (Or.inr ⟨by rfl, rfl⟩) hS ?_
  simp only [Act.put, List.setIfInBounds_toArray, List.set_cons_zero, List.set_cons_succ]
  refine wpAnyH_take (i := 6) (oi := { dst := some 27, op := Op.call { callee := Callee.value (Operand.func 34), args := #[Operand.tmp 26], argTypes := #[23] }, type := 3, pos := "chain.go:63", after := #[{ on := 5, ground := Ground.data }, { on := 3, ground := Ground.chain }, { on := 3, ground := Ground.guard }], guard := some (3, true) }) (v := undef) rfl (by kernel_rfl) (by kernel_rfl) (by kernel_rfl) (fun _ _ _ h => h) (Or.inr ⟨by rfl, rfl⟩) hS ?_
  simp only [Act.put, List.setIfInBounds_toArray, List.set_cons_zero, List.set_cons_succ]
  refine wpAnyH_take (i := 7) (oi := { dst := some 28, op := Op.call { callee := Callee.value (Operand.func 33), args := #[Operand.tmp 27], argTypes := #[3] }, type := 23, pos := "chain.go:63", after := #[{ on := 6, ground := Ground.data }, { on := 6, ground := Ground.chain }, { on := 3, ground := Ground.guard }], guard := some (3, true) }) (v := undef) rfl (by kernel_rfl) (by kernel_rfl) (by kernel_rfl) (fun _ _ _ h => h) (Or.inr ⟨by rfl, rfl⟩) hS ?_
  simp only [Act.put, List.setIfInBounds_toArray, List.set_cons_zero, List.set_cons_succ]
  refine wpAnyH_take (i := 8) (oi := { dst := some 29, op := Op.fieldAddr 48 (Operand.tmp 1) 1, type := 0, pos := "chain.go:63", after := #[{ on := 3, ground := Ground.guard }], guard := some (3, true) }) (v := undef) rfl (by kernel_rfl) (by kernel_rfl) (by kernel_rfl) (fun _ _ _ h => h) (Or.inr ⟨by rfl, rfl⟩) hS ?_
  simp only [Act.put, List.setIfInBounds_toArray, List.set_cons_zero, List.set_cons_succ]
  refine wpAnyH_take (i := 9) (oi := { dst := some 30, op := Op.load 23 (Operand.tmp 29), type := 23, pos := "chain.go:63", after := #[{ on := 8, ground := Ground.data }, { on := 3, ground := Ground.guard }], guard := some (3, true) }) (v := undef) rfl (by kernel_rfl) (by kernel_rfl) (by kernel_rfl) (fun _ _ _ h => h) (Or.inr ⟨by rfl, rfl⟩) hS ?_
  simp only [Act.put, List.setIfInBounds_toArray, List.set_cons_zero, List.set_cons_succ]
  refine wpAnyH_take (i := 10) (oi := { dst := some 31, op := Op.binOp BinOp.eql 23 (Operand.tmp 28) (Operand.tmp 30) 23, type := 4, pos := "chain.go:63", after := #[{ on := 7, ground := Ground.data }, { on := 9, ground := Ground.data }, { on := 3, ground := Ground.guard }], guard := some (3, true) }) (v := undef) rfl (by kernel_rfl) (by kernel_rfl) (by kernel_rfl) (fun _ _ _ h => h) (Or.inr ⟨by rfl, rfl⟩) hS ?_
  simp only [Act.put, List.setIfInBounds_toArray, List.set_cons_zero, List.set_cons_succ]
  refine wpAnyH_take (i := 11) (oi := { dst := some 32, op := Op.pick (Operand.tmp 24) (Operand.tmp 31) (Operand.const (Value.bool false)), type := 4, pos := "chain.go:63", after := #[{ on := 3, ground := Ground.data }, { on := 10, ground := Ground.data }], guard := none }) (v := ?vc34) rfl (by kernel_rfl) (by kernel_rfl) (by kernel_rfl) (fun _ _ _ h => h) (Or.inl ⟨by rfl, ?yc34⟩) hS ?_
  case yc34 =>
    intro w hSw
    go_simp; all_goals (with_reducible rfl)
  simp only [Act.put, List.setIfInBounds_toArray, List.set_cons_zero, List.set_cons_succ]
  refine wpAnyH_take (i := 12) (oi := { dst := some 20, op := Op.assign (Operand.tmp 32), type := 4, pos := "chain.go:63", after := #[{ on := 11, ground := Ground.data }, { on := 7, ground := Ground.chain }], guard := none }) (v := ?vc35) rfl (by kernel_rfl) (by kernel_rfl) (by kernel_rfl) (fun _ _ _ h => h) (Or.inl ⟨by rfl, ?yc35⟩) hS ?_
  case yc35 =>
    intro w hSw
    go_simp; all_goals (with_reducible rfl)
  simp only [Act.put, List.setIfInBounds_toArray, List.set_cons_zero, List.set_cons_succ]
  refine wpAnyH_done (by kernel_rfl) ?_ _
  go_wp2_with fail
  refine (HF.out _).mono ?_
  rintro e w' ⟨rfl, hb2⟩
  go_wp2_with fail
  go_ret2
  exact ⟨rfl, (hb _).drew.trans (hb2.mono (by simp))⟩
set_option maxRecDepth 100000 in
set_option maxHeartbeats 1000000 in
theorem cbytes_3 (n : Nat) (h1 : 1 ≤ n) (h2 : n ≤ 256) (w : World) :
    Calls Tryd.prog 17 #[.agg #[.int .i64 3, .int .u32 (n : Nat)]] w (GivesT w [UInt8.ofNat (n - 1)] (.int .i64 0)) := by
  have hb := below_box w
  have HF := Lib.hid (fmay_any ⟨3, n⟩ ⟨by simp, by simp, by simp; omega⟩)
  have hfit : fitB ⟨3, n⟩ = true := by unfold fitB; simp; omega
  rw [hfit] at HF
  simp only [Fil.agg] at HF
  clear hfit
  go_enter Tryd.func17, Tryd.ntmps17
  go_wp2_with fail
  refine wp_region_held_drew (S := fun w' => w'.cell? ⟨w.heap.size, 0, none⟩ = some (.int .i64 3) ∧ w'.cell? ⟨w.heap.size, 1, none⟩ = some (.int .u32 (n : Nat))) (by kernel_rfl) (box_cells w _ _ _) (fun hS => ?_)
  refine wpAnyH_take (i := 0) (oi := { dst := some 21, op := Op.fieldAddr 48 (Operand.tmp 1) 0, type := 0, pos := "chain.go:63", after := #[], guard := none }) (v := ?vd36) rfl (by kernel_rfl) (by kernel_rfl) (by kernel_rfl) (fun _ _ _ h => h) (Or.inl ⟨by rfl, ?yd36⟩) hS ?_
  case yd36 =>
    intro w hSw
    go_simp; all_goals (with_reducible rfl)
  simp only [Act.put, List.setIfInBounds_toArray, List.set_cons_zero, List.set_cons_succ]
  refine wpAnyH_take (i := 1) (oi := { dst := some 22, op := Op.load 3 (Operand.tmp 21), type := 3, pos := "chain.go:63", after := #[{ on := 0, ground := Ground.data }], guard := none }) (v := ?vd37) rfl (by kernel_rfl) (by kernel_rfl) (by kernel_rfl) (fun _ _ _ h => h) (Or.inl ⟨by rfl, ?yd37⟩) hS ?_
  case yd37 =>
    intro w hSw
    obtain ⟨j0, j1⟩ := hSw
    go_simp; all_goals (with_reducible rfl)
  simp only [Act.put, List.setIfInBounds_toArray, List.set_cons_zero, List.set_cons_succ]
  refine wpAnyH_take (i := 2) (oi := { dst := some 23, op := Op.binOp BinOp.eql 3 (Operand.tmp 22) (Operand.const (Value.int IntKind.i64 33)) 3, type := 4, pos := "chain.go:63", after := #[{ on := 1, ground := Ground.data }], guard := none }) (v := ?vd38) rfl (by kernel_rfl) (by kernel_rfl) (by kernel_rfl) (fun _ _ _ h => h) (Or.inl ⟨by rfl, ?yd38⟩) hS ?_
  case yd38 =>
    intro w hSw
    go_simp; all_goals (with_reducible rfl)
  simp only [Act.put, List.setIfInBounds_toArray, List.set_cons_zero, List.set_cons_succ]
  refine wpAnyH_take (i := 3) (oi := { dst := some 24, op := Op.move (Operand.tmp 23), type := 4, pos := "chain.go:63", after := #[{ on := 2, ground := Ground.data }], guard := none }) (v := ?vd39) rfl (by kernel_rfl) (by kernel_rfl) (by kernel_rfl) (fun _ _ _ h => h) (Or.inl ⟨by rfl, ?yd39⟩) hS ?_
  case yd39 =>
    intro w hSw
    go_simp; all_goals (with_reducible rfl)
  simp only [Act.put, List.setIfInBounds_toArray, List.set_cons_zero, List.set_cons_succ]
  refine wpAnyH_take (i := 4) (oi := { dst := some 25, op := Op.fieldAddr 48 (Operand.tmp 1) 1, type := 0, pos := "chain.go:63", after := #[{ on := 3, ground := Ground.guard }], guard := some (3, true) }) (v := undef) rfl (by kernel_rfl) (by kernel_rfl) (by kernel_rfl) (fun _ _ _ h => h) (Or.inr ⟨by rfl, rfl⟩) hS ?_
  simp only [Act.put, List.setIfInBounds_toArray, List.set_cons_zero, List.set_cons_succ]
  refine wpAnyH_take (i := 5) (oi := { dst := some 26, op := Op.load 23 (Operand.tmp 25), type := 23, pos := "chain.go:63", after := #[{ on := 4, ground := Ground.data }, { on := 3, ground := Ground.guard }], guard := some (3, true) }) (v := undef) rfl (by kernel_rfl) (by kernel_rfl) (by kernel_rfl) (fun _ _ _ h => h) (Or.inr ⟨by rfl, rfl⟩) hS ?_
  simp only [Act.put, List.setIfInBounds_toArray, List.set_cons_zero, List.set_cons_succ]
  refine wpAnyH_take (i := 6) (oi := { dst := some 27, op := Op.call { callee := Callee.value (Operand.func 34), args := #[Operand.tmp 26], argTypes := #[23] }, type := 3, pos := "chain.go:63", after := #[{ on := 5, ground := Ground.data }, { on := 3, ground := Ground.chain }, { on := 3, ground := Ground.guard }], guard := some (3, true) }) (v := undef) rfl (by kernel_rfl) (by kernel_rfl) (by kernel_rfl) (fun _ _ _ h => h) (Or.inr ⟨by rfl, rfl⟩) hS ?_
  simp only [Act.put, List.setIfInBounds_toArray, List.set_cons_zero, List.set_cons_succ]
  refine wpAnyH_take (i := 7) (oi := { dst := some 28, op := Op.call { callee := Callee.value (Operand.func 33), args := #[Operand.tmp 27], argTypes := #[3] }, type := 23, pos := "chain.go:63", after := #[{ on := 6, ground := Ground.data }, { on := 6, ground := Ground.chain }, { on := 3, ground := Ground.guard }], guard := some (3, true) }) (v := undef) rfl (by kernel_rfl) (by kernel_rfl) (by kernel_rfl) (fun _ _ _ h => h) (Or.inr ⟨by rfl, rfl⟩) hS ?_
  simp only [Act.put, List.setIfInBounds_toArray, List.set_cons_zero, List.set_cons_succ]
  refine wpAnyH_take (i := 8) (oi := { dst := some 29, op := Op.fieldAddr 48 (Operand.tmp 1) 1, type := 0, pos := "chain.go:63", after := #[{ on := 3, ground := Ground.guard }], guard := some (3, true) }) (v := undef) rfl (by kernel_rfl) (by kernel_rfl) (by kernel_rfl) (fun _ _ _ h => h) (Or.inr ⟨by rfl, rfl⟩) hS ?_
  simp only [Act.put, List.setIfInBounds_toArray, List.set_cons_zero, List.set_cons_succ]
  refine wpAnyH_take (i := 9) (oi := { dst := some 30, op := Op.load 23 (Operand.tmp 29), type := 23, pos := "chain.go:63", after := #[{ on := 8, ground := Ground.data }, { on := 3, ground := Ground.guard }], guard := some (3, true) }) (v := undef) rfl (by kernel_rfl) (by kernel_rfl) (by kernel_rfl) (fun _ _ _ h => h) (Or.inr ⟨by rfl, rfl⟩) hS ?_
  simp only [Act.put, List.setIfInBounds_toArray, List.set_cons_zero, List.set_cons_succ]
  refine wpAnyH_take (i := 10) (oi := { dst := some 31, op := Op.binOp BinOp.eql 23 (Operand.tmp 28) (Operand.tmp 30) 23, type := 4, pos := "chain.go:63", after := #[{ on := 7, ground := Ground.data }, { on := 9, ground := Ground.data }, { on := 3, ground := Ground.guard }], guard := some (3, true) }) (v := undef) rfl (by kernel_rfl) (by kernel_rfl) (by kernel_rfl) (fun _ _ _ h => h) (Or.inr ⟨by rfl, rfl⟩) hS ?_
  simp only [Act.put, List.setIfInBounds_toArray, List.set_cons_zero, List.set_cons_succ]
  refine wpAnyH_take (i := 11) (oi := { dst := some 32, op := Op.pick (Operand.tmp 24) (Operand.tmp 31) (Operand.const (Value.bool false)), type := 4, pos := "chain.go:63", after := #[{ on := 3, ground := Ground.data }, { on := 10, ground := Ground.data }], guard := none }) (v := ?vd47) rfl (by kernel_rfl) (by kernel_rfl) (by kernel_rfl) (fun _ _ _ h => h) (Or.inl ⟨by rfl, ?yd47⟩) hS ?_
  case yd47 =>
    intro w hSw
    go_simp; all_goals (with_reducible rfl)
  simp only [Act.put, List.setIfInBounds_toArray, List.set_cons_zero, List.set_cons_succ]
  refine wpAnyH_take (i := 12) (oi := { dst := some 20, op := Op.assign (Operand.tmp 32), type := 4, pos := "chain.go:63", after := #[{ on := 11, ground := Ground.data }, { on := 7, ground := Ground.chain }], guard := none }) (v := ?vd48) rfl (by kernel_rfl) (by kernel_rfl) (by kernel_rfl) (fun _ _ _ h => h) (Or.inl ⟨by rfl, ?yd48⟩) hS ?_
  case yd48 =>
    intro w hSw
    go_simp; all_goals (with_reducible rfl)
  simp only [Act.put, List.setIfInBounds_toArray, List.set_cons_zero, List.set_cons_succ]
  refine wpAnyH_done (by kernel_rfl) ?_ _
  go_wp2_with fail
  refine (HF.out _).mono ?_
  rintro e w1 ⟨rfl, hb2⟩
  have k0 := (hb2.cell (p := ⟨w.heap.size, 0, none⟩) (by simp)).trans hS.1
  have k1 := (hb2.cell (p := ⟨w.heap.size, 1, none⟩) (by simp)).trans hS.2
  have g2 := (hb (.cells #[.int .i64 3, .int .u32 (n : Nat)] 48)).drew.trans (hb2.mono (by simp))
  clear hb2
  have e : (n : Int) - 1 = ((n - 1 : Nat) : Int) := by omega
  have e256 : n - 1 < 256 := by omega
  generalize n - 1 = m at *
  go_wp2_with fail
  go_ret2
  exact ⟨_, rfl, lit1 _ _ _ (by omega) g2.size, g2.alloc g2.size _⟩
set_option maxRecDepth 100000 in
set_option maxHeartbeats 1000000 in
theorem cbytes_0 (id : Int) (hok : (⟨id, 0⟩ : Fil).ok) (h33 : id ≠ 33) (h3 : id ≠ 3) (hf : fitB ⟨id, 0⟩ = true) (w : World) :
    Calls Tryd.prog 17 #[.agg #[.int .i64 id, .int .u32 0]] w (GivesT w [] (.int .i64 0)) := by
  have hb := below_box w
  have HF := Lib.hid (fmay_any ⟨id, 0⟩ hok)
  rw [hf] at HF
  simp only [Fil.agg] at HF
  obtain ⟨o1, o2, o3⟩ := hok
  simp only at o1 o2 o3
  have hd : (id == 33) = false := by simp [h33]
  have hd3 : (id == 3) = false := by simp [h3]
  clear h33 hf h3
  go_enter Tryd.func17, Tryd.ntmps17
  go_wp2_with fail
  refine wp_region_held_drew (S := fun w' => w'.cell? ⟨w.heap.size, 0, none⟩ = some (.int .i64 id) ∧ w'.cell? ⟨w.heap.size, 1, none⟩ = some (.int .u32 0)) (by kernel_rfl) (box_cells w _ _ _) (fun hS => ?_)
  refine wpAnyH_take (i := 0) (oi := { dst := some 21, op := Op.fieldAddr 48 (Operand.tmp 1) 0, type := 0, pos := "chain.go:63", after := #[], guard := none }) (v := ?ve49) rfl (by kernel_rfl) (by kernel_rfl) (by kernel_rfl) (fun _ _ _ h => h) (Or.inl ⟨by rfl, ?ye49⟩) hS ?_
  case ye49 =>
    intro w hSw
    go_simp; all_goals (with_reducible rfl)
  simp only [Act.put, List.setIfInBounds_toArray, List.set_cons_zero, List.set_cons_succ]
  refine wpAnyH_take (i := 1) (oi := { dst := some 22, op := Op.load 3 (Operand.tmp 21), type := 3, pos := "chain.go:63", after := #[{ on := 0, ground := Ground.data }], guard := none }) (v := ?ve50) rfl (by kernel_rfl) (by kernel_rfl) (by kernel_rfl) (fun _ _ _ h => h) (Or.inl ⟨by rfl, ?ye50⟩) hS ?_
  case ye50 =>
    intro w hSw
    obtain ⟨j0, j1⟩ := hSw
    go_simp; all_goals (with_reducible rfl)
  simp only [Act.put, List.setIfInBounds_toArray, List.set_cons_zero, List.set_cons_succ]
  refine wpAnyH_take (i := 2) (oi := { dst := some 23, op := Op.binOp BinOp.eql 3 (Operand.tmp 22) (Operand.const (Value.int IntKind.i64 33)) 3, type := 4, pos := "chain.go:63", after := #[{ on := 1, ground := Ground.data }], guard := none }) (v := ?ve51) rfl (by kernel_rfl) (by kernel_rfl) (by kernel_rfl) (fun _ _ _ h => h) (Or.inl ⟨by rfl, ?ye51⟩) hS ?_
  case ye51 =>
    intro w hSw
    go_simp; all_goals (with_reducible rfl)
  simp only [Act.put, List.setIfInBounds_toArray, List.set_cons_zero, List.set_cons_succ]
  refine wpAnyH_take (i := 3) (oi := { dst := some 24, op := Op.move (Operand.tmp 23), type := 4, pos := "chain.go:63", after := #[{ on := 2, ground := Ground.data }], guard := none }) (v := ?ve52) rfl (by kernel_rfl) (by kernel_rfl) (by kernel_rfl) (fun _ _ _ h => h) (Or.inl ⟨by rfl, ?ye52⟩) hS ?_
  case ye52 =>
    intro w hSw
    go_simp; all_goals (with_reducible rfl)
  simp only [Act.put, List.setIfInBounds_toArray, List.set_cons_zero, List.set_cons_succ]
  refine wpAnyH_take (i := 4) (oi := { dst := some 25, op := Op.fieldAddr 48 (Operand.tmp 1) 1, type := 0, pos := "chain.go:63", after := #[{ on := 3, ground := Ground.guard }], guard := some (3, true) }) (v := undef) rfl (by kernel_rfl) (by kernel_rfl) (by kernel_rfl) (fun _ _ _ h => h) (Or.inr ⟨by rfl, rfl⟩) hS ?_
  simp only [Act.put, List.setIfInBounds_toArray, List.set_cons_zero, List.set_cons_succ]
  refine wpAnyH_take (i := 5) (oi := { dst := some 26, op := Op.load 23 (Operand.tmp 25), type := 23, pos := "chain.go:63", after := #[{ on := 4, ground := Ground.data }, { on := 3, ground := Ground.guard }], guard := some (3, true) }) (v := undef) rfl (by kernel_rfl) (by kernel_rfl) (by kernel_rfl) (fun _ _ _ h => h) (Or.inr ⟨by rfl, rfl⟩) hS ?_
  simp only [Act.put, List.setIfInBounds_toArray, List.set_cons_zero, List.set_cons_succ]
  refine wpAnyH_take (i := 6) (oi := { dst := some 27, op := Op.call { callee := Callee.value (Operand.func 34), args := #[Operand.tmp 26], argTypes := #[23] }, type := 3, pos := "chain.go:63", after := #[{ on := 5, ground := Ground.data }, { on := 3, ground := Ground.chain }, { on := 3, ground := Ground.guard }], guard := some (3, true) }) (v := undef) rfl (by kernel_rfl) (by kernel_rfl) (by kernel_rfl) (fun _ _ _ h => h) (Or.inr ⟨by rfl, rfl⟩) hS ?_
  simp only [Act.put, List.setIfInBounds_toArray, List.set_cons_zero, List.set_cons_succ]
  refine wpAnyH_take (i := 7) (oi := { dst := some 28, op := Op.call { callee := Callee.value (Operand.func 33), args := #[Operand.tmp 27], argTypes := #[3] }, type := 23, pos := "chain.go:63", after := #[{ on := 6, ground := Ground.data }, { on := 6, ground := Ground.chain }, { on := 3, ground := Ground.guard }], guard := some (3, true) }) (v := undef) rfl (by kernel_rfl) (by kernel_rfl) (by kernel_rfl) (fun _ _ _ h => h) (Or.inr ⟨by rfl, rfl⟩) hS ?_
  simp only [Act.put, List.setIfInBounds_toArray, List.set_cons_zero, List.set_cons_succ]
  refine wpAnyH_take (i := 8) (oi := { dst := some 29, op := Op.fieldAddr 48 (Operand.tmp 1) 1, type := 0, pos := "chain.go:63", after := #[{ on := 3, ground := Ground.guard }], guard := some (3, true) }) (v := undef) rfl (by kernel_rfl) (by kernel_rfl) (by kernel_rfl) (fun _ _ _ h => h) (Or.inr ⟨by rfl, rfl⟩) hS ?_
  simp only [Act.put, List.setIfInBounds_toArray, List.set_cons_zero, List.set_cons_succ]
  refine wpAnyH_take (i := 9) (oi := { dst := some 30, op := Op.load 23 (Operand.tmp 29), type := 23, pos := "chain.go:63", after := #[{ on := 8, ground := Ground.data }, { on := 3, ground := Ground.guard }], guard := some (3, true) }) (v := undef) rfl (by kernel_rfl) (by kernel_rfl) (by kernel_rfl) (fun _ _ _ h => h) (Or.inr ⟨by rfl, rfl⟩) hS ?_
  simp only [Act.put, List.setIfInBounds_toArray, List.set_cons_zero, List.set_cons_succ]
  refine wpAnyH_take (i := 10) (oi := { dst := some 31, op := Op.binOp BinOp.eql 23 (Operand.tmp 28) (Operand.tmp 30) 23, type := 4, pos := "chain.go:63", after := #[{ on := 7, ground := Ground.data }, { on := 9, ground := Ground.data }, { on := 3, ground := Ground.guard }], guard := some (3, true) }) (v := undef) rfl (by kernel_rfl) (by kernel_rfl) (by kernel_rfl) (fun _ _ _ h => h) (Or.inr ⟨by rfl, rfl⟩) hS ?_
  simp only [Act.put, List.setIfInBounds_toArray, List.set_cons_zero, List.set_cons_succ]
  refine wpAnyH_take (i := 11) (oi := { dst := some 32, op := Op.pick (Operand.tmp 24) (Operand.tmp 31) (Operand.const (Value.bool false)), type := 4, pos := "chain.go:63", after := #[{ on := 3, ground := Ground.data }, { on := 10, ground := Ground.data }], guard := none }) (v := ?ve60) rfl (by kernel_rfl) (by kernel_rfl) (by kernel_rfl) (fun _ _ _ h => h) (Or.inl ⟨by rfl, ?ye60⟩) hS ?_
  case ye60 =>
    intro w hSw
    go_simp; all_goals (with_reducible rfl)
  simp only [Act.put, List.setIfInBounds_toArray, List.set_cons_zero, List.set_cons_succ]
  refine wpAnyH_take (i := 12) (oi := { dst := some 20, op := Op.assign (Operand.tmp 32), type := 4, pos := "chain.go:63", after := #[{ on := 11, ground := Ground.data }, { on := 7, ground := Ground.chain }], guard := none }) (v := ?ve61) rfl (by kernel_rfl) (by kernel_rfl) (by kernel_rfl) (fun _ _ _ h => h) (Or.inl ⟨by rfl, ?ye61⟩) hS ?_
  case ye61 =>
    intro w hSw
    go_simp; all_goals (with_reducible rfl)
  simp only [Act.put, List.setIfInBounds_toArray, List.set_cons_zero, List.set_cons_succ]
  refine wpAnyH_done (by kernel_rfl) ?_ _
  go_wp2_with fail
  refine (HF.out _).mono ?_
  rintro e w1 ⟨rfl, hb2⟩
  have k0 := (hb2.cell (p := ⟨w.heap.size, 0, none⟩) (by simp)).trans hS.1
  have k1 := (hb2.cell (p := ⟨w.heap.size, 1, none⟩) (by simp)).trans hS.2
  have g2 := (hb (.cells #[.int .i64 id, .int .u32 0] 48)).drew.trans (hb2.mono (by simp))
  clear hb2
  go_wp2_with fail
  go_ret2
  exact ⟨_, rfl, Own.nil _ _, g2⟩
set_option maxRecDepth 100000 in
set_option maxHeartbeats 1000000 in
theorem cbytes_4 (id : Int) (n : Nat) (hok : (⟨id, n⟩ : Fil).ok) (h33 : id ≠ 33) (h3 : id ≠ 3) (hf : fitB ⟨id, n⟩ = true) (h0 : n ≠ 0) (w : World) :
    Calls Tryd.prog 17 #[.agg #[.int .i64 id, .int .u32 (n : Nat)]] w (GivesT w (bytesOf true n) (.int .i64 0)) := by
  have hb := below_box w
  have HF := Lib.hid (fmay_any ⟨id, n⟩ hok)
  rw [hf] at HF
  simp only [Fil.agg] at HF
  obtain ⟨o1, o2, o3⟩ := hok
  simp only at o1 o2 o3
  have hd : (id == 33) = false := by simp [h33]
  have hd3 : (id == 3) = false := by simp [h3]
  have hn0 : ((n : Int) == 0) = false := by simp [h0]
  clear h33 hf h3
  have e0 : (n : Int) % 256 = ((UInt8.ofNat (n % 256)).toNat : Int) := by rw [of_nat n]; omega
  have e1 : (n : Int) / 256 % 256 = ((UInt8.ofNat (n / 256 % 256)).toNat : Int) := by rw [of_nat (n / 256)]; omega
  have e2 : (n : Int) / 65536 % 256 = ((UInt8.ofNat (n / 65536 % 256)).toNat : Int) := by rw [of_nat (n / 65536)]; omega
  have e3 : (n : Int) / 16777216 % 256 = ((UInt8.ofNat (n / 16777216 % 256)).toNat : Int) := by rw [of_nat (n / 16777216)]; omega
  have e3' : (n : Int) / 16777216 = ((UInt8.ofNat (n / 16777216 % 256)).toNat : Int) := by rw [of_nat (n / 16777216)]; omega
  have hbo : bytesOf true n = [UInt8.ofNat (n % 256), UInt8.ofNat (n / 256 % 256), UInt8.ofNat (n / 65536 % 256), UInt8.ofNat (n / 16777216 % 256)] := rfl
  rw [hbo]
  generalize UInt8.ofNat (n % 256) = y0 at *
  generalize UInt8.ofNat (n / 256 % 256) = y1 at *
  generalize UInt8.ofNat (n / 65536 % 256) = y2 at *
  generalize UInt8.ofNat (n / 16777216 % 256) = y3 at *
  clear hbo
  go_enter Tryd.func17, Tryd.ntmps17
  go_wp2_with fail
  refine wp_region_held_drew (S := fun w' => w'.cell? ⟨w.heap.size, 0, none⟩ = some (.int .i64 id) ∧ w'.cell? ⟨w.heap.size, 1, none⟩ = some (.int .u32 (n : Nat))) (by kernel_rfl) (box_cells w _ _ _) (fun hS => ?_)
  refine wpAnyH_take (i := 0) (oi := { dst := some 21, op := Op.fieldAddr 48 (Operand.tmp 1) 0, type := 0, pos := "chain.go:63", after := #[], guard := none }) (v := ?vf62) rfl (by kernel_rfl) (by kernel_rfl) (by kernel_rfl) (fun _ _ _ h => h) (Or.inl ⟨by rfl, ?yf62⟩) hS ?_
  case yf62 =>
    intro w hSw
    go_simp; all_goals (with_reducible rfl)
  simp only [Act.put, List.setIfInBounds_toArray, List.set_cons_zero, List.set_cons_succ]
  refine wpAnyH_take (i := 1) (oi := { dst := some 22, op := Op.load 3 (Operand.tmp 21), type := 3, pos := "chain.go:63", after := #[{ on := 0, ground := Ground.data }], guard := none }) (v := ?vf63) rfl (by kernel_rfl) (by kernel_rfl) (by kernel_rfl) (fun _ _ _ h => h) (Or.inl ⟨by rfl, ?yf63⟩) hS ?_
  case yf63 =>
    intro w hSw
    obtain ⟨j0, j1⟩ := hSw
    go_simp; all_goals (with_reducible rfl)
  simp only [Act.put, List.setIfInBounds_toArray, List.set_cons_zero, List.set_cons_succ]
  refine wpAnyH_take (i := 2) (oi := { dst := some 23, op := Op.binOp BinOp.eql 3 (Operand.tmp 22) (Operand.const (Value.int IntKind.i64 33)) 3, type := 4, pos := "chain.go:63", after := #[{ on := 1, ground := Ground.data }], guard := none }) (v := ?vf64) rfl (by kernel_rfl) (by kernel_rfl) (by kernel_rfl) (fun _ _ _ h => h) (Or.inl ⟨by rfl, ?yf64⟩) hS ?_
  case yf64 =>
    intro w hSw
    go_simp; all_goals (with_reducible rfl)
  simp only [Act.put, List.setIfInBounds_toArray, List.set_cons_zero, List.set_cons_succ]
  refine wpAnyH_take (i := 3) (oi := { dst := some 24, op := Op.move (Operand.tmp 23), type := 4, pos := "chain.go:63", after := #[{ on := 2, ground := Ground.data }], guard := none }) (v := ?vf65) rfl (by kernel_rfl) (by kernel_rfl) (by kernel_rfl) (fun _ _ _ h => h) (Or.inl ⟨by rfl, ?yf65⟩) hS ?_
  case yf65 =>
    intro w hSw
    go_simp; all_goals (with_reducible rfl)
  simp only [Act.put, List.setIfInBounds_toArray, List.set_cons_zero, List.set_cons_succ]
  refine wpAnyH_take (i := 4) (oi := { dst := some 25, op := Op.fieldAddr 48 (Operand.tmp 1) 1, type := 0, pos := "chain.go:63", after := #[{ on := 3, ground := Ground.guard }], guard := some (3, true) }) (v := undef) rfl (by kernel_rfl) (by kernel_rfl) (by kernel_rfl) (fun _ _ _ h => h) (Or.inr ⟨by rfl, rfl⟩) hS ?_
  simp only [Act.put, List.setIfInBounds_toArray, List.set_cons_zero, List.set_cons_succ]
  refine wpAnyH_take (i := 5) (oi := { dst := some 26, op := Op.load 23 (Operand.tmp 25), type := 23, pos := "chain.go:63", after := #[{ on := 4, ground := Ground.data }, { on := 3, ground := Ground.guard }], guard := some (3, true) }) (v := undef) rfl (by kernel_rfl) (by kernel_rfl) (by kernel_rfl) (fun _ _ _ h => h) (Or.inr ⟨by rfl, rfl⟩) hS ?_
  simp only [Act.put, List.setIfInBounds_toArray, List.set_cons_zero, List.set_cons_succ]
  refine wpAnyH_take (i := 6) (oi := { dst := some 27, op := Op.call { callee := Callee.value (Operand.func 34), args := #[Operand.tmp 26], argTypes := #[23] }, type := 3, pos := "chain.go:63", after := #[{ on := 5, ground := Ground.data }, { on := 3, ground := Ground.chain }, { on := 3, ground := Ground.guard }], guard := some (3, true) }) (v := undef) rfl (by kernel_rfl) (by kernel_rfl) (by kernel_rfl) (fun _ _ _ h => h) (Or.inr ⟨by rfl, rfl⟩) hS ?_
  simp only [Act.put, List.setIfInBounds_toArray, List.set_cons_zero, List.set_cons_succ]
  refine wpAnyH_take (i := 7) (oi := { dst := some 28, op := Op.call { callee := Callee.value (Operand.func 33), args := #[Operand.tmp 27], argTypes := #[3] }, type := 23, pos := "chain.go:63", after := #[{ on := 6, ground := Ground.data }, { on := 6, ground := Ground.chain }, { on := 3, ground := Ground.guard }], guard := some (3, true) }) (v := undef) rfl (by kernel_rfl) (by kernel_rfl) (by kernel_rfl) (fun _ _ _ h => h) (Or.inr ⟨by rfl, rfl⟩) hS ?_
  simp only [Act.put, List.setIfInBounds_toArray, List.set_cons_zero, List.set_cons_succ]
  refine wpAnyH_take (i := 8) (oi := { dst := some 29, op := Op.fieldAddr 48 (Operand.tmp 1) 1, type := 0, pos := "chain.go:63", after := #[{ on := 3, ground := Ground.guard }], guard := some (3, true) }) (v := undef) rfl (by kernel_rfl) (by kernel_rfl) (by kernel_rfl) (fun _ _ _ h => h) (Or.inr ⟨by rfl, rfl⟩) hS ?_
  simp only [Act.put, List.setIfInBounds_toArray, List.set_cons_zero, List.set_cons_succ]
  refine wpAnyH_take (i := 9) (oi := { dst := some 30, op := Op.load 23 (Operand.tmp 29), type := 23, pos := "chain.go:63", after := #[{ on := 8, ground := Ground.data }, { on := 3, ground := Ground.guard }], guard := some (3, true) }) (v := undef) rfl (by kernel_rfl) (by kernel_rfl) (by kernel_rfl) (fun _ _ _ h => h) (Or.inr ⟨by rfl, rfl⟩) hS ?_
  simp only [Act.put, List.setIfInBounds_toArray, List.set_cons_zero, List.set_cons_succ]
  refine wpAnyH_take (i := 10) (oi := { dst := some 31, op := Op.binOp BinOp.eql 23 (Operand.tmp 28) (Operand.tmp 30) 23, type := 4, pos := "chain.go:63", after := #[{ on := 7, ground := Ground.data }, { on := 9, ground := Ground.data }, { on := 3, ground := Ground.guard }], guard := some (3, true) }) (v := undef) rfl (by kernel_rfl) (by kernel_rfl) (by kernel_rfl) (fun _ _ _ h => h) (Or.inr ⟨by rfl, rfl⟩) hS ?_
  simp only [Act.put, List.setIfInBounds_toArray, List.set_cons_zero, List.set_cons_succ]
  refine wpAnyH_take (i := 11) (oi := { dst := some 32, op := Op.pick (Operand.tmp 24) (Operand.tmp 31) (Operand.const (Value.bool false)), type := 4, pos := "chain.go:63", after := #[{ on := 3, ground := Ground.data }, { on := 10, ground := Ground.data }], guard := none }) (v := ?vf73) rfl (by kernel_rfl) (by kernel_rfl) (by kernel_rfl) (fun _ _ _ h => h) (Or.inl ⟨by rfl, ?yf73⟩) hS ?_
  case yf73 =>
    intro w hSw
    go_simp; all_goals (with_reducible rfl)
  simp only [Act.put, List.setIfInBounds_toArray, List.set_cons_zero, List.set_cons_succ]
  refine wpAnyH_take (i := 12) (oi := { dst := some 20, op := Op.assign (Operand.tmp 32), type := 4, pos := "chain.go:63", after := #[{ on := 11, ground := Ground.data }, { on := 7, ground := Ground.chain }], guard := none }) (v := ?vf74) rfl (by kernel_rfl) (by kernel_rfl) (by kernel_rfl) (fun _ _ _ h => h) (Or.inl ⟨by rfl, ?yf74⟩) hS ?_
  case yf74 =>
    intro w hSw
    go_simp; all_goals (with_reducible rfl)
  simp only [Act.put, List.setIfInBounds_toArray, List.set_cons_zero, List.set_cons_succ]
  refine wpAnyH_done (by kernel_rfl) ?_ _
  go_wp2_with fail
  refine (HF.out _).mono ?_
  rintro e w1 ⟨rfl, hb2⟩
  have k0 := (hb2.cell (p := ⟨w.heap.size, 0, none⟩) (by simp)).trans hS.1
  have k1 := (hb2.cell (p := ⟨w.heap.size, 1, none⟩) (by simp)).trans hS.2
  have g2 := (hb (.cells #[.int .i64 id, .int .u32 (n : Nat)] 48)).drew.trans (hb2.mono (by simp))
  clear hb2
  go_wp2_with fail
  go_ret2
  exact ⟨_, rfl, lit4 _ _ _ _ _ _ g2.size, g2.alloc g2.size _⟩
theorem cbytes_any (f : Fil) (hok : f.ok) (w : World) : Calls Tryd.prog 17 #[f.agg] w (OutO w (.int .i64 0) (.int .i64 1) (bytesL f)) := by
  obtain ⟨id, n⟩ := f
  have hn := hok.2.2
  simp only at hn
  unfold bytesL
  simp only
  by_cases h33 : id = 33
  · subst h33
    rw [if_pos rfl]
    by_cases hd : dictN (codeN n) = n
    · rw [if_pos hd]; exact cbytes_33 n hn hd w
    · rw [if_neg hd]; exact cbytes_33no n hn hd w
  · rw [if_neg h33]
    by_cases hf : fitB ⟨id, n⟩ = true
    · rw [if_pos hf]
      by_cases h3 : id = 3
      · subst h3
        rw [if_pos rfl]
        rcases fit_id _ hf with ⟨_, g1, g2⟩ | ⟨e, _, _⟩
        · exact cbytes_3 n g1 g2 w
        · exact absurd rfl e
      · rw [if_neg h3]
        by_cases h0 : n = 0
        · subst h0; rw [if_pos rfl]; exact cbytes_0 id hok h33 h3 hf w
        · rw [if_neg h0]; exact cbytes_4 id n hok h33 h3 hf h0 w
    · rw [if_neg hf]; exact cbytes_no id n hok h33 (by simpa using hf) w
end Go.Proofs.YtaggkcgeddoogaaDoor

/- Filters' bytes, by the reference. -/
namespace Go.Proofs.YtaggkcgeddoogaaDoor
open Go.RowKit

def NoDict (n k : Nat) : Prop := ∀ j, j < k → dictN j ≠ n
theorem bytes_hit (n k : Nat) (hk : k ≤ 40) (_hno : NoDict n k) (h : dictN k = n) : bytesL ⟨33, n⟩ = some [UInt8.ofNat k] := by
  have e : codeN n = k := codeN_eq n k hk (by omega) (fun j hj => by rw [← h]; exact dictN_mono j k hj hk)
  unfold bytesL
  simp only [if_true]
  rw [e, if_pos h]
theorem bytes_miss (n : Nat) (hno : NoDict n 41) : bytesL ⟨33, n⟩ = none := by
  unfold bytesL
  simp only [if_true]
  rw [if_neg (hno _ (by have := codeN_le n; omega))]

set_option maxRecDepth 100000 in
set_option maxHeartbeats 1000000 in
theorem rbytes_33 (n : Nat) (hn : n < 4294967296) (w : World) :
    Calls Tryd.prog 19 #[.agg #[.int .i64 33, .int .u32 (n : Nat)]] w (OutO w (.bool true) (.bool false) (bytesL ⟨33, n⟩)) := by
  have HH := Lib.hid (bytes_hit n)
  have HM := Lib.hid (bytes_miss n)
  have hb0 := below_box w (.cells #[.int .i64 33, .int .u32 (n : Nat)] 48)
  have hbx := box_cells w (.int .i64 33) (.int .u32 (n : Nat)) 48
  generalize bytesL ⟨33, n⟩ = X at *
  go_enter Tryd.func19, Tryd.ntmps19
  go_wp2_with fail
  go_loopw [4] (fun i wr => ∃ k : Nat, k ≤ 41 ∧ i = .int .i64 k ∧ NoDict n k ∧ wr.cell? ⟨w.heap.size, 0, none⟩ = some (.int .i64 33) ∧ wr.cell? ⟨w.heap.size, 1, none⟩ = some (.int .u32 (n : Nat)) ∧ Below w.heap.size w wr) (fun i _ => 41 - (intOf i).toNat)
  case atStart => exact ⟨0, by omega, rfl, fun j hj => by omega, hbx.1, hbx.2, hb0⟩
  case round =>
    clear hb0 hbx
    obtain ⟨k, hk, rfl, hno, k0, k1, hb⟩ := hrel
    by_cases hlt : k < 41
    · have HD := Lib.hid (rdict_nat k)
      have hl := dictN_lt k
      by_cases hd : dictN k = n
      · have hX := HH.out k (by omega) hno hd
        subst hX
        rw [hd] at HD hl
        have HNO := Lib.hid hno
        clear hno hd
        go_wp2_with fail
        refine wp_region_held_drew (S := fun w' => w'.cell? ⟨w.heap.size, 0, none⟩ = some (.int .i64 33) ∧ w'.cell? ⟨w.heap.size, 1, none⟩ = some (.int .u32 (n : Nat))) (by kernel_rfl) ⟨k0, k1⟩ (fun hS => ?_)
        refine wpAnyH_take (i := 0) (oi := { dst := some 13, op := Op.move (Operand.tmp 4), type := 3, pos := "ref.go:82", after := #[], guard := none }) (v := ?va1) rfl (by kernel_rfl) (by kernel_rfl) (by kernel_rfl) (fun _ _ _ h => h) (Or.inl ⟨by rfl, ?ya1⟩) hS ?_
        case ya1 =>
          intro w hSw
          go_simp; all_goals (with_reducible rfl)
        simp only [Act.put, List.setIfInBounds_toArray, List.set_cons_zero, List.set_cons_succ]
        refine wpAnyH_take (i := 2) (oi := { dst := some 15, op := Op.fieldAddr 48 (Operand.tmp 1) 1, type := 0, pos := "ref.go:82", after := #[], guard := none }) (v := ?va2) rfl (by kernel_rfl) (by kernel_rfl) (by kernel_rfl) (fun _ _ _ h => h) (Or.inl ⟨by rfl, ?ya2⟩) hS ?_
        case ya2 =>
          intro w hSw
          go_simp; all_goals (with_reducible rfl)
        simp only [Act.put, List.setIfInBounds_toArray, List.set_cons_zero, List.set_cons_succ]
        refine wpAnyH_take (i := 3) (oi := { dst := some 16, op := Op.load 23 (Operand.tmp 15), type := 23, pos := "ref.go:82", after := #[{ on := 2, ground := Ground.data }], guard := none }) (v := ?va3) rfl (by kernel_rfl) (by kernel_rfl) (by kernel_rfl) (fun _ _ _ h => h) (Or.inl ⟨by rfl, ?ya3⟩) hS ?_
        case ya3 =>
          intro w hSw
          obtain ⟨j0, j1⟩ := hSw
          go_simp; all_goals (with_reducible rfl)
        simp only [Act.put, List.setIfInBounds_toArray, List.set_cons_zero, List.set_cons_succ]
        refine wpAnyH_take (i := 4) (oi := { dst := some 17, op := Op.convert 23 44 (Operand.tmp 16), type := 44, pos := "ref.go:82", after := #[{ on := 3, ground := Ground.data }], guard := none }) (v := ?va4) rfl (by kernel_rfl) (by kernel_rfl) (by kernel_rfl) (fun _ _ _ h => h) (Or.inl ⟨by rfl, ?ya4⟩) hS ?_
        case ya4 =>
          intro w hSw
          have q2 : IntKind.u64.wrap (n : Int) = (n : Int) := IntWalk.u64_in _ (by omega)
          go_simp; all_goals (with_reducible rfl)
        simp only [Act.put, List.setIfInBounds_toArray, List.set_cons_zero, List.set_cons_succ]
        refine wpAnyH_ready (rs := [1]) (by kernel_rfl) (by simp) ?_
        refine (AllReadyH.cons (o := { dst := some 14, op := Op.call { callee := Callee.value (Operand.func 38), args := #[Operand.tmp 13], argTypes := #[3] }, type := 44, pos := "ref.go:82", after := #[{ on := 0, ground := Ground.data }], guard := none }) rfl (fun K hK => ?_) AllReadyH.nil)
        go_simp
        refine (HD.out _).mono ?_
        rintro e w' ⟨rfl, rfl⟩
        go_wp2_with fail
        refine hK.out _ _ hS (fun _ => ?_)
        clear hK K
        refine wpAnyH_take (i := 5) (oi := { dst := some 18, op := Op.binOp BinOp.eql 44 (Operand.tmp 14) (Operand.tmp 17) 44, type := 4, pos := "ref.go:82", after := #[{ on := 1, ground := Ground.data }, { on := 4, ground := Ground.data }], guard := none }) (v := ?va5) rfl (by kernel_rfl) (by kernel_rfl) (by kernel_rfl) (fun _ _ _ h => h) (Or.inl ⟨by rfl, ?ya5⟩) hS ?_
        case ya5 =>
          intro w hSw
          go_simp; all_goals (with_reducible rfl)
        simp only [Act.put, List.setIfInBounds_toArray, List.set_cons_zero, List.set_cons_succ]
        refine wpAnyH_done (by kernel_rfl) ?_ _
        go_wp2_with fail
        go_ret2
        exact ⟨_, rfl, (lit1 wr k _ (by omega) hb.size).drew, (hb.alloc hb.size _).drew⟩
      · have hne : ((dictN k : Int) == (n : Int)) = false := by simp; omega
        have hno' : NoDict n (k + 1) := by
          intro j hj
          by_cases e : j = k
          · subst e; exact hd
          · exact hno j (by omega)
        generalize dictN k = D at *
        have HNO := Lib.hid hno'
        clear hno hd hno'
        go_wp2_with fail
        refine wp_region_held_drew (S := fun w' => w'.cell? ⟨w.heap.size, 0, none⟩ = some (.int .i64 33) ∧ w'.cell? ⟨w.heap.size, 1, none⟩ = some (.int .u32 (n : Nat))) (by kernel_rfl) ⟨k0, k1⟩ (fun hS => ?_)
        refine wpAnyH_take (i := 0) (oi := { dst := some 13, op := Op.move (Operand.tmp 4), type := 3, pos := "ref.go:82", after := #[], guard := none }) (v := ?vb6) rfl (by kernel_rfl) (by kernel_rfl) (by kernel_rfl) (fun _ _ _ h => h) (Or.inl ⟨by rfl, ?yb6⟩) hS ?_
        case yb6 =>
          intro w hSw
          go_simp; all_goals (with_reducible rfl)
        simp only [Act.put, List.setIfInBounds_toArray, List.set_cons_zero, List.set_cons_succ]
        refine wpAnyH_take (i := 2) (oi := { dst := some 15, op := Op.fieldAddr 48 (Operand.tmp 1) 1, type := 0, pos := "ref.go:82", after := #[], guard := none }) (v := ?vb7) rfl (by kernel_rfl) (by kernel_rfl) (by kernel_rfl) (fun _ _ _ h => h) (Or.inl ⟨by rfl, ?yb7⟩) hS ?_
        case yb7 =>
          intro w hSw
          go_simp; all_goals (with_reducible rfl)
        simp only [Act.put, List.setIfInBounds_toArray, List.set_cons_zero, List.set_cons_succ]
        refine wpAnyH_take (i := 3) (oi := { dst := some 16, op := Op.load 23 (Operand.tmp 15), type := 23, pos := "ref.go:82", after := #[{ on := 2, ground := Ground.data }], guard := none }) (v := ?vb8) rfl (by kernel_rfl) (by kernel_rfl) (by kernel_rfl) (fun _ _ _ h => h) (Or.inl ⟨by rfl, ?yb8⟩) hS ?_
        case yb8 =>
          intro w hSw
          obtain ⟨j0, j1⟩ := hSw
          go_simp; all_goals (with_reducible rfl)
        simp only [Act.put, List.setIfInBounds_toArray, List.set_cons_zero, List.set_cons_succ]
        refine wpAnyH_take (i := 4) (oi := { dst := some 17, op := Op.convert 23 44 (Operand.tmp 16), type := 44, pos := "ref.go:82", after := #[{ on := 3, ground := Ground.data }], guard := none }) (v := ?vb9) rfl (by kernel_rfl) (by kernel_rfl) (by kernel_rfl) (fun _ _ _ h => h) (Or.inl ⟨by rfl, ?yb9⟩) hS ?_
        case yb9 =>
          intro w hSw
          have q2 : IntKind.u64.wrap (n : Int) = (n : Int) := IntWalk.u64_in _ (by omega)
          go_simp; all_goals (with_reducible rfl)
        simp only [Act.put, List.setIfInBounds_toArray, List.set_cons_zero, List.set_cons_succ]
        refine wpAnyH_ready (rs := [1]) (by kernel_rfl) (by simp) ?_
        refine (AllReadyH.cons (o := { dst := some 14, op := Op.call { callee := Callee.value (Operand.func 38), args := #[Operand.tmp 13], argTypes := #[3] }, type := 44, pos := "ref.go:82", after := #[{ on := 0, ground := Ground.data }], guard := none }) rfl (fun K hK => ?_) AllReadyH.nil)
        go_simp
        refine (HD.out _).mono ?_
        rintro e w' ⟨rfl, rfl⟩
        go_wp2_with fail
        refine hK.out _ _ hS (fun _ => ?_)
        clear hK K
        refine wpAnyH_take (i := 5) (oi := { dst := some 18, op := Op.binOp BinOp.eql 44 (Operand.tmp 14) (Operand.tmp 17) 44, type := 4, pos := "ref.go:82", after := #[{ on := 1, ground := Ground.data }, { on := 4, ground := Ground.data }], guard := none }) (v := ?vb10) rfl (by kernel_rfl) (by kernel_rfl) (by kernel_rfl) (fun _ _ _ h => h) (Or.inl ⟨by rfl, ?yb10⟩) hS ?_
        case yb10 =>
          intro w hSw
          go_simp; all_goals (with_reducible rfl)
        simp only [Act.put, List.setIfInBounds_toArray, List.set_cons_zero, List.set_cons_succ]
        refine wpAnyH_done (by kernel_rfl) ?_ _
        go_wp2_with fail
        go_roundw
        case rel => exact ⟨k + 1, by omega, by go_num, HNO.out, k0, k1, hb.drew⟩
        case measure => simp [intOf]; omega
    · obtain rfl : k = 41 := by omega
      have hX := HM.out hno
      subst hX
      go_wp2_with fail
      go_ret2
      exact ⟨rfl, hb⟩

set_option maxRecDepth 100000 in
set_option maxHeartbeats 1000000 in
theorem rbytes_no (id : Int) (n : Nat) (hok : (⟨id, n⟩ : Fil).ok) (h33 : id ≠ 33) (hf : fitB ⟨id, n⟩ = false) (w : World) :
    Calls Tryd.prog 19 #[.agg #[.int .i64 id, .int .u32 (n : Nat)]] w (NoneT w (.bool false)) := by
  have hb := below_box w
  have HF := Lib.hid (fits_any ⟨id, n⟩ hok)
  rw [hf] at HF
  simp only [Fil.agg] at HF
  have hd : (id == 33) = false := by simp [h33]
  clear h33 hf
  go_enter Tryd.func19, Tryd.ntmps19
  go_wp2_with fail
  refine (HF.out _).mono ?_
  rintro e w' ⟨rfl, hb2⟩
  go_wp2_with fail
  go_ret2
  exact ⟨rfl, (hb _).trans (hb2.mono (by simp))⟩
set_option maxRecDepth 100000 in
set_option maxHeartbeats 1000000 in
theorem rbytes_3 (n : Nat) (h1 : 1 ≤ n) (h2 : n ≤ 256) (w : World) :
    Calls Tryd.prog 19 #[.agg #[.int .i64 3, .int .u32 (n : Nat)]] w (GivesT w [UInt8.ofNat (n - 1)] (.bool true)) := by
  have hb := below_box w
  have HF := Lib.hid (fits_any ⟨3, n⟩ ⟨by simp, by simp, by simp; omega⟩)
  have hfit : fitB ⟨3, n⟩ = true := by unfold fitB; simp; omega
  rw [hfit] at HF
  simp only [Fil.agg] at HF
  clear hfit
  go_enter Tryd.func19, Tryd.ntmps19
  go_wp2_with fail
  refine (HF.out _).mono ?_
  rintro e w1 ⟨rfl, hb2⟩
  have k0 := (hb2.cell (p := ⟨w.heap.size, 0, none⟩) (by simp)).trans (box_cells w (.int .i64 3) (.int .u32 (n : Nat)) 48).1
  have k1 := (hb2.cell (p := ⟨w.heap.size, 1, none⟩) (by simp)).trans (box_cells w (.int .i64 3) (.int .u32 (n : Nat)) 48).2
  have g2 := (hb (.cells #[.int .i64 3, .int .u32 (n : Nat)] 48)).trans (hb2.mono (by simp))
  clear hb2
  have e : (n : Int) - 1 = ((n - 1 : Nat) : Int) := by omega
  have e256 : n - 1 < 256 := by omega
  generalize n - 1 = m at *
  go_wp2_with fail
  go_ret2
  exact ⟨_, rfl, lit1 _ _ _ (by omega) g2.size, g2.alloc g2.size _⟩
set_option maxRecDepth 100000 in
set_option maxHeartbeats 1000000 in
theorem rbytes_0 (id : Int) (hok : (⟨id, 0⟩ : Fil).ok) (h33 : id ≠ 33) (h3 : id ≠ 3) (hf : fitB ⟨id, 0⟩ = true) (w : World) :
    Calls Tryd.prog 19 #[.agg #[.int .i64 id, .int .u32 0]] w (GivesT w [] (.bool true)) := by
  have hb := below_box w
  have HF := Lib.hid (fits_any ⟨id, 0⟩ hok)
  rw [hf] at HF
  simp only [Fil.agg] at HF
  have hd : (id == 33) = false := by simp [h33]
  have hd3 : (id == 3) = false := by simp [h3]
  clear h33 hf h3
  go_enter Tryd.func19, Tryd.ntmps19
  go_wp2_with fail
  refine (HF.out _).mono ?_
  rintro e w1 ⟨rfl, hb2⟩
  have k0 := (hb2.cell (p := ⟨w.heap.size, 0, none⟩) (by simp)).trans (box_cells w (.int .i64 id) (.int .u32 0) 48).1
  have k1 := (hb2.cell (p := ⟨w.heap.size, 1, none⟩) (by simp)).trans (box_cells w (.int .i64 id) (.int .u32 0) 48).2
  have g2 := (hb (.cells #[.int .i64 id, .int .u32 0] 48)).trans (hb2.mono (by simp))
  clear hb2
  go_wp2_with fail
  go_ret2
  exact ⟨_, rfl, Own.nil _ _, g2⟩
set_option maxRecDepth 100000 in
set_option maxHeartbeats 1000000 in
theorem rbytes_4 (id : Int) (n : Nat) (hok : (⟨id, n⟩ : Fil).ok) (h33 : id ≠ 33) (h3 : id ≠ 3) (hf : fitB ⟨id, n⟩ = true) (h0 : n ≠ 0) (w : World) :
    Calls Tryd.prog 19 #[.agg #[.int .i64 id, .int .u32 (n : Nat)]] w (GivesT w (bytesOf true n) (.bool true)) := by
  have hb := below_box w
  have HF := Lib.hid (fits_any ⟨id, n⟩ hok)
  rw [hf] at HF
  simp only [Fil.agg] at HF
  obtain ⟨o1, o2, o3⟩ := hok
  simp only at o1 o2 o3
  have hd : (id == 33) = false := by simp [h33]
  have hd3 : (id == 3) = false := by simp [h3]
  have hn0 : ((n : Int) == 0) = false := by simp [h0]
  clear h33 hf h3
  have e0 : (n : Int) % 256 = ((UInt8.ofNat (n % 256)).toNat : Int) := by rw [of_nat n]; omega
  have e1 : (n : Int) / 256 % 256 = ((UInt8.ofNat (n / 256 % 256)).toNat : Int) := by rw [of_nat (n / 256)]; omega
  have e2 : (n : Int) / 65536 % 256 = ((UInt8.ofNat (n / 65536 % 256)).toNat : Int) := by rw [of_nat (n / 65536)]; omega
  have e3 : (n : Int) / 16777216 % 256 = ((UInt8.ofNat (n / 16777216 % 256)).toNat : Int) := by rw [of_nat (n / 16777216)]; omega
  have e3' : (n : Int) / 16777216 = ((UInt8.ofNat (n / 16777216 % 256)).toNat : Int) := by rw [of_nat (n / 16777216)]; omega
  have hbo : bytesOf true n = [UInt8.ofNat (n % 256), UInt8.ofNat (n / 256 % 256), UInt8.ofNat (n / 65536 % 256), UInt8.ofNat (n / 16777216 % 256)] := rfl
  rw [hbo]
  generalize UInt8.ofNat (n % 256) = y0 at *
  generalize UInt8.ofNat (n / 256 % 256) = y1 at *
  generalize UInt8.ofNat (n / 65536 % 256) = y2 at *
  generalize UInt8.ofNat (n / 16777216 % 256) = y3 at *
  clear hbo
  go_enter Tryd.func19, Tryd.ntmps19
  go_wp2_with fail
  refine (HF.out _).mono ?_
  rintro e w1 ⟨rfl, hb2⟩
  have k0 := (hb2.cell (p := ⟨w.heap.size, 0, none⟩) (by simp)).trans (box_cells w (.int .i64 id) (.int .u32 (n : Nat)) 48).1
  have k1 := (hb2.cell (p := ⟨w.heap.size, 1, none⟩) (by simp)).trans (box_cells w (.int .i64 id) (.int .u32 (n : Nat)) 48).2
  have g2 := (hb (.cells #[.int .i64 id, .int .u32 (n : Nat)] 48)).trans (hb2.mono (by simp))
  clear hb2
  go_wp2_with fail
  go_ret2
  exact ⟨_, rfl, lit4 _ _ _ _ _ _ g2.size, g2.alloc g2.size _⟩
theorem rbytes_any (f : Fil) (hok : f.ok) (w : World) : Calls Tryd.prog 19 #[f.agg] w (OutO w (.bool true) (.bool false) (bytesL f)) := by
  obtain ⟨id, n⟩ := f
  have hn := hok.2.2
  simp only at hn
  by_cases h33 : id = 33
  · subst h33; exact rbytes_33 n hn w
  · unfold bytesL
    simp only
    rw [if_neg h33]
    by_cases hf : fitB ⟨id, n⟩ = true
    · rw [if_pos hf]
      by_cases h3 : id = 3
      · subst h3
        rw [if_pos rfl]
        rcases fit_id _ hf with ⟨_, g1, g2⟩ | ⟨e, _, _⟩
        · exact rbytes_3 n g1 g2 w
        · exact absurd rfl e
      · rw [if_neg h3]
        by_cases h0 : n = 0
        · subst h0; rw [if_pos rfl]; exact rbytes_0 id hok h33 h3 hf w
        · rw [if_neg h0]; exact rbytes_4 id n hok h33 h3 hf h0 w
    · rw [if_neg hf]; exact rbytes_no id n hok h33 (by simpa using hf) w
end Go.Proofs.YtaggkcgeddoogaaDoor

/- chain's Read of what is no filter's. -/
namespace Go.Proofs.YtaggkcgeddoogaaDoor
open Go.RowKit

def FilT (w : World) (id : Int) (n : Nat) (tag : Value) (e : Ending) (w' : World) : Prop := e = .returned (.tuple #[.agg #[.int .i64 id, .int .u32 (n : Nat)], tag]) ∧ Below w.heap.size w w'
set_option maxRecDepth 100000 in
set_option maxHeartbeats 400000 in
theorem cread_none (id : Int) (h33 : id ≠ 33) (h3 : id ≠ 3) (hi : isIdB id = false) (A : Option Addr) (n c : Nat) (w : World) :
    Calls Tryd.prog 58 #[.int .i64 id, .slice A n c] w (FilT w 0 0 (.int .i64 5)) := by
  have HI := Lib.hid (isBranch_any id)
  rw [hi] at HI
  have d33 : (id == 33) = false := by simp [h33]
  have d3 : (id == 3) = false := by simp [h3]
  clear h33 h3 hi
  go_enter Tryd.func58, Tryd.ntmps58
  go_wp2_with fail
  refine (HI.out _).mono ?_
  rintro e w' ⟨rfl, rfl⟩
  go_wp2_with fail
  refine (HI.out _).mono ?_
  rintro e w' ⟨rfl, rfl⟩
  go_wp2_with fail
  exact bodyPost_ret (v := .tuple #[.agg #[.int .i64 0, .int .u32 0], .int .i64 5]) (by simp [results, Tryd.results58, go_sem]) rfl ⟨rfl, ((Below.refl _ _).alloc (Nat.le_refl _) _).alloc (by simp) _⟩
end Go.Proofs.YtaggkcgeddoogaaDoor

/- Four bytes as a number. -/
namespace Go.Proofs.YtaggkcgeddoogaaDoor
open Go.RowKit

def word (low : Bool) (x0 x1 x2 x3 : UInt8) : Nat := if low then x0.toNat + x1.toNat * 256 + x2.toNat * 65536 + x3.toNat * 16777216 else x3.toNat + x2.toNat * 256 + x1.toNat * 65536 + x0.toNat * 16777216

theorem or_up (a b k : Nat) (ha : a < 2 ^ k) : a ||| b * 2 ^ k = a + b * 2 ^ k := by
  rw [Nat.or_comm, ← Nat.shiftLeft_eq, ← Nat.shiftLeft_add_eq_or_of_lt ha, Nat.add_comm]
theorem word_of (a b c d : Nat) (ha : a < 256) (hb : b < 256) (hc : c < 256) (hd : d < 256) :
    bits .or .u32 (bits .or .u32 (bits .or .u32 (IntKind.u32.wrap (a : Int)) (IntKind.u32.wrap (IntKind.u32.wrap (b : Int) * 256))) (IntKind.u32.wrap (IntKind.u32.wrap (c : Int) * 65536))) (IntKind.u32.wrap (IntKind.u32.wrap (d : Int) * 16777216)) = ((a + b * 256 + c * 65536 + d * 16777216 : Nat) : Int) := by
  have w0 : ∀ x : Nat, x < 256 → IntKind.u32.wrap (x : Int) = (x : Int) := fun x hx => by rw [IntKind.wrap_u32]; omega
  rw [w0 a ha, w0 b hb, w0 c hc, w0 d hd]
  have e1 : IntKind.u32.wrap ((b : Int) * 256) = ((b * 256 : Nat) : Int) := by rw [IntKind.wrap_u32]; omega
  have e2 : IntKind.u32.wrap ((c : Int) * 65536) = ((c * 65536 : Nat) : Int) := by rw [IntKind.wrap_u32]; omega
  have e3 : IntKind.u32.wrap ((d : Int) * 16777216) = ((d * 16777216 : Nat) : Int) := by rw [IntKind.wrap_u32]; omega
  have o1 : a ||| b * 256 = a + b * 256 := or_up a b 8 (by omega)
  have o2 : (a + b * 256) ||| c * 65536 = a + b * 256 + c * 65536 := or_up _ c 16 (by omega)
  have o3 : (a + b * 256 + c * 65536) ||| d * 16777216 = a + b * 256 + c * 65536 + d * 16777216 := or_up _ d 24 (by omega)
  rw [e1, e2, e3, u32_or_nat _ _ (by omega) (by omega), o1, u32_or_nat _ _ (by omega) (by omega), o2, u32_or_nat _ _ (by omega) (by omega), o3]

def four (w : World) (b i : Nat) (y0 y1 y2 y3 : Nat) : World := (((w.setCell ⟨b, i, none⟩ (.int .u8 (y0 : Nat))).setCell ⟨b, i + 1, none⟩ (.int .u8 (y1 : Nat))).setCell ⟨b, i + 2, none⟩ (.int .u8 (y2 : Nat))).setCell ⟨b, i + 3, none⟩ (.int .u8 (y3 : Nat))

theorem word_lt (low : Bool) (a b c d : UInt8) : word low a b c d < 4294967296 := by
  have h1 := a.toNat_lt; have h2 := b.toNat_lt; have h3 := c.toNat_lt; have h4 := d.toNat_lt
  unfold word; split <;> omega
theorem num0 (y0 y1 y2 y3 : Nat) : numTo y0 y1 y2 y3 0 = 0 := rfl
theorem num1 (y0 y1 y2 y3 : Nat) : numTo y0 y1 y2 y3 1 = y0 := rfl
theorem num2 (y0 y1 y2 y3 : Nat) : numTo y0 y1 y2 y3 2 = 256 * y0 + y1 := rfl
theorem num3 (y0 y1 y2 y3 : Nat) : numTo y0 y1 y2 y3 3 = 256 * (256 * y0 + y1) + y2 := rfl
theorem num4 (y0 y1 y2 y3 : Nat) : numTo y0 y1 y2 y3 4 = 256 * (256 * (256 * y0 + y1) + y2) + y3 := rfl

end Go.Proofs.YtaggkcgeddoogaaDoor
