/- The reference's Number and Four of layer 14. -/
import Derived.Test.YtflklbnebljnmaaBrCode
namespace Go.Proofs.Ytflklbnebljnmaa
open Go.RowKit

/-- Bytes of one's own come back. -/
def GivesB (w : World) (l : List UInt8) (e : Ending) (w' : World) : Prop := ∃ v, e = .returned v ∧ Own w.heap.size w' v l ∧ Below w.heap.size w w'

theorem lit4 (w : World) (a b c d : UInt8) (base : Nat) (hb : base ≤ w.heap.size) : Own base (w.alloc (.cells #[.int .u8 (a.toNat : Nat), .int .u8 (b.toNat : Nat), .int .u8 (c.toNat : Nat), .int .u8 (d.toNat : Nat)] 5)) (.slice (some ⟨w.heap.size, 0, none⟩) 4 4) [a, b, c, d] :=
  Own.lit w [a, b, c, d] hb (by simp)
theorem of_nat (n : Nat) : ((UInt8.ofNat (n % 256)).toNat : Nat) = n % 256 := by
  have : n % 256 < 256 := by omega
  simp [Nat.mod_eq_of_lt this]
theorem lit4_cell (w W' : World) (a b c d : Value) (h : Below (w.alloc (.cells #[a, b, c, d] 5)).heap.size (w.alloc (.cells #[a, b, c, d] 5)) W') :
    W'.cell? ⟨w.heap.size, 0, none⟩ = some a ∧ W'.cell? ⟨w.heap.size, 1, none⟩ = some b ∧ W'.cell? ⟨w.heap.size, 2, none⟩ = some c ∧ W'.cell? ⟨w.heap.size, 3, none⟩ = some d := by
  have hlt : w.heap.size < (w.alloc (.cells #[a, b, c, d] 5)).heap.size := by simp
  refine ⟨?_, ?_, ?_, ?_⟩ <;> (rw [h.cell (p := ⟨w.heap.size, _, none⟩) hlt, cell_of_row _ _ _ _ _ _ (heap_alloc_last _ _)]; rfl)

set_option maxRecDepth 100000 in
set_option maxHeartbeats 1000000 in
theorem four_any (W : Nat) (low : Bool) (w : World) (hW : W < 4294967296) :
    Calls Try.prog 36 #[.int .i64 (W : Nat), .bool (!low)] w (GivesB w (bytesOf low W)) := by
  have e0 : (W : Int) % 256 = ((UInt8.ofNat (W % 256)).toNat : Int) := by rw [of_nat W]; omega
  have e1 : (W : Int) / 256 % 256 = ((UInt8.ofNat (W / 256 % 256)).toNat : Int) := by rw [of_nat (W / 256)]; omega
  have e2 : (W : Int) / 65536 % 256 = ((UInt8.ofNat (W / 65536 % 256)).toNat : Int) := by rw [of_nat (W / 65536)]; omega
  have e3 : (W : Int) / 16777216 % 256 = ((UInt8.ofNat (W / 16777216 % 256)).toNat : Int) := by rw [of_nat (W / 16777216)]; omega
  have e3' : (W : Int) / 16777216 = ((UInt8.ofNat (W / 16777216 % 256)).toNat : Int) := by rw [of_nat (W / 16777216)]; omega
  have hb : bytesOf low W = if low then [UInt8.ofNat (W % 256), UInt8.ofNat (W / 256 % 256), UInt8.ofNat (W / 65536 % 256), UInt8.ofNat (W / 16777216 % 256)] else [UInt8.ofNat (W / 16777216 % 256), UInt8.ofNat (W / 65536 % 256), UInt8.ofNat (W / 256 % 256), UInt8.ofNat (W % 256)] := rfl
  generalize bytesOf low W = R at *
  generalize UInt8.ofNat (W % 256) = y0 at *
  generalize UInt8.ofNat (W / 256 % 256) = y1 at *
  generalize UInt8.ofNat (W / 65536 % 256) = y2 at *
  generalize UInt8.ofNat (W / 16777216 % 256) = y3 at *
  cases low with
  | false =>
    simp only [Bool.false_eq_true, if_false] at hb
    subst hb
    have ho := lit4 w y3 y2 y1 y0 w.heap.size (Nat.le_refl _)
    have hb0 : Below w.heap.size w (w.alloc (.cells #[.int .u8 (y3.toNat : Nat), .int .u8 (y2.toNat : Nat), .int .u8 (y1.toNat : Nat), .int .u8 (y0.toNat : Nat)] 5)) := (Below.refl _ _).alloc (Nat.le_refl _) _
    simp only [Bool.not_false]
    go_enter Try.func36, Try.ntmps36
    go_wp2_with fail
    go_ret
    exact ⟨_, rfl, ho, hb0⟩
  | true =>
    simp only [if_true] at hb
    subst hb
    have hc := lit4_cell w
    have hb0 : Below w.heap.size w (w.alloc (.cells #[.int .u8 (y3.toNat : Nat), .int .u8 (y2.toNat : Nat), .int .u8 (y1.toNat : Nat), .int .u8 (y0.toNat : Nat)] 5)) := (Below.refl _ _).alloc (Nat.le_refl _) _
    have hcs := fun W' h => hc W' (.int .u8 (y3.toNat : Nat)) (.int .u8 (y2.toNat : Nat)) (.int .u8 (y1.toNat : Nat)) (.int .u8 (y0.toNat : Nat)) h
    clear hc
    simp only [Bool.not_true]
    go_enter Try.func36, Try.ntmps36
    go_wp2_with fail
    clear e0 e1 e2 e3 e3'
    generalize w.alloc (.cells #[.int .u8 (y3.toNat : Nat), .int .u8 (y2.toNat : Nat), .int .u8 (y1.toNat : Nat), .int .u8 (y0.toNat : Nat)] 5) = W1 at *
    have hc0 : ∀ w', Below W1.heap.size W1 w' → w'.cell? ⟨w.heap.size, 0, none⟩ = some (.int .u8 (y3.toNat : Nat)) := fun w' h => (hcs w' h).1
    have hc1 : ∀ w', Below W1.heap.size W1 w' → w'.cell? ⟨w.heap.size, 1, none⟩ = some (.int .u8 (y2.toNat : Nat)) := fun w' h => (hcs w' h).2.1
    have hc2 : ∀ w', Below W1.heap.size W1 w' → w'.cell? ⟨w.heap.size, 2, none⟩ = some (.int .u8 (y1.toNat : Nat)) := fun w' h => (hcs w' h).2.2.1
    have hc3 : ∀ w', Below W1.heap.size W1 w' → w'.cell? ⟨w.heap.size, 3, none⟩ = some (.int .u8 (y0.toNat : Nat)) := fun w' h => (hcs w' h).2.2.2
    have hS1 : Below W1.heap.size W1 W1.drew := (Below.refl _ _).drew
    have hS2 := hS1.alloc (Nat.le_refl _) (.cells #[.int .u8 (y0.toNat : Nat), .int .u8 (y1.toNat : Nat), .int .u8 (y2.toNat : Nat), .int .u8 (y3.toNat : Nat)] 5)
    have ho := lit4 W1.drew y0 y1 y2 y3 w.heap.size hb0.size
    clear hcs
    refine wp_region_held_drew (S := fun w' => Below W1.heap.size W1 w') (by kernel_rfl) hS1 (fun hS => ?_)
    refine wpAnyH_take (i := 0) (oi := { dst := some 20, op := Op.move (Operand.tmp 5), type := 23, pos := "ref.go:23", after := #[], guard := none }) (v := ?vf1) rfl (by kernel_rfl) (by kernel_rfl) (by kernel_rfl) (fun _ _ _ h => h) (Or.inl ⟨by rfl, ?yf1⟩) hS ?_
    case yf1 =>
      intro w hSw
      go_simp; all_goals (with_reducible rfl)
    simp only [Act.put, List.setIfInBounds_toArray, List.set_cons_zero, List.set_cons_succ]
    refine wpAnyH_take (i := 1) (oi := { dst := some 21, op := Op.indexAddr 23 (Operand.tmp 20) (Operand.const (Value.int IntKind.i64 3)), type := 0, pos := "ref.go:23", after := #[{ on := 0, ground := Ground.data }], guard := none }) (v := ?vf2) rfl (by kernel_rfl) (by kernel_rfl) (by kernel_rfl) (fun _ _ _ h => h) (Or.inl ⟨by rfl, ?yf2⟩) hS ?_
    case yf2 =>
      intro w hSw
      go_simp; all_goals (with_reducible rfl)
    simp only [Act.put, List.setIfInBounds_toArray, List.set_cons_zero, List.set_cons_succ]
    refine wpAnyH_take (i := 2) (oi := { dst := some 22, op := Op.load 5 (Operand.tmp 21), type := 5, pos := "ref.go:23", after := #[{ on := 1, ground := Ground.data }], guard := none }) (v := ?vf3) rfl (by kernel_rfl) (by kernel_rfl) (by kernel_rfl) (fun _ _ _ h => h) (Or.inl ⟨by rfl, ?yf3⟩) hS ?_
    case yf3 =>
      intro w hSw
      have c0 := hc0 _ hSw
      have c1 := hc1 _ hSw
      have c2 := hc2 _ hSw
      have c3 := hc3 _ hSw
      go_simp; all_goals (with_reducible rfl)
    simp only [Act.put, List.setIfInBounds_toArray, List.set_cons_zero, List.set_cons_succ]
    refine wpAnyH_take (i := 3) (oi := { dst := some 23, op := Op.move (Operand.tmp 5), type := 23, pos := "ref.go:23", after := #[], guard := none }) (v := ?vf4) rfl (by kernel_rfl) (by kernel_rfl) (by kernel_rfl) (fun _ _ _ h => h) (Or.inl ⟨by rfl, ?yf4⟩) hS ?_
    case yf4 =>
      intro w hSw
      go_simp; all_goals (with_reducible rfl)
    simp only [Act.put, List.setIfInBounds_toArray, List.set_cons_zero, List.set_cons_succ]
    refine wpAnyH_take (i := 4) (oi := { dst := some 24, op := Op.indexAddr 23 (Operand.tmp 23) (Operand.const (Value.int IntKind.i64 2)), type := 0, pos := "ref.go:23", after := #[{ on := 3, ground := Ground.data }], guard := none }) (v := ?vf5) rfl (by kernel_rfl) (by kernel_rfl) (by kernel_rfl) (fun _ _ _ h => h) (Or.inl ⟨by rfl, ?yf5⟩) hS ?_
    case yf5 =>
      intro w hSw
      go_simp; all_goals (with_reducible rfl)
    simp only [Act.put, List.setIfInBounds_toArray, List.set_cons_zero, List.set_cons_succ]
    refine wpAnyH_take (i := 5) (oi := { dst := some 25, op := Op.load 5 (Operand.tmp 24), type := 5, pos := "ref.go:23", after := #[{ on := 4, ground := Ground.data }], guard := none }) (v := ?vf6) rfl (by kernel_rfl) (by kernel_rfl) (by kernel_rfl) (fun _ _ _ h => h) (Or.inl ⟨by rfl, ?yf6⟩) hS ?_
    case yf6 =>
      intro w hSw
      have c0 := hc0 _ hSw
      have c1 := hc1 _ hSw
      have c2 := hc2 _ hSw
      have c3 := hc3 _ hSw
      go_simp; all_goals (with_reducible rfl)
    simp only [Act.put, List.setIfInBounds_toArray, List.set_cons_zero, List.set_cons_succ]
    refine wpAnyH_take (i := 6) (oi := { dst := some 26, op := Op.move (Operand.tmp 5), type := 23, pos := "ref.go:23", after := #[], guard := none }) (v := ?vf7) rfl (by kernel_rfl) (by kernel_rfl) (by kernel_rfl) (fun _ _ _ h => h) (Or.inl ⟨by rfl, ?yf7⟩) hS ?_
    case yf7 =>
      intro w hSw
      go_simp; all_goals (with_reducible rfl)
    simp only [Act.put, List.setIfInBounds_toArray, List.set_cons_zero, List.set_cons_succ]
    refine wpAnyH_take (i := 7) (oi := { dst := some 27, op := Op.indexAddr 23 (Operand.tmp 26) (Operand.const (Value.int IntKind.i64 1)), type := 0, pos := "ref.go:23", after := #[{ on := 6, ground := Ground.data }], guard := none }) (v := ?vf8) rfl (by kernel_rfl) (by kernel_rfl) (by kernel_rfl) (fun _ _ _ h => h) (Or.inl ⟨by rfl, ?yf8⟩) hS ?_
    case yf8 =>
      intro w hSw
      go_simp; all_goals (with_reducible rfl)
    simp only [Act.put, List.setIfInBounds_toArray, List.set_cons_zero, List.set_cons_succ]
    refine wpAnyH_take (i := 8) (oi := { dst := some 28, op := Op.load 5 (Operand.tmp 27), type := 5, pos := "ref.go:23", after := #[{ on := 7, ground := Ground.data }], guard := none }) (v := ?vf9) rfl (by kernel_rfl) (by kernel_rfl) (by kernel_rfl) (fun _ _ _ h => h) (Or.inl ⟨by rfl, ?yf9⟩) hS ?_
    case yf9 =>
      intro w hSw
      have c0 := hc0 _ hSw
      have c1 := hc1 _ hSw
      have c2 := hc2 _ hSw
      have c3 := hc3 _ hSw
      go_simp; all_goals (with_reducible rfl)
    simp only [Act.put, List.setIfInBounds_toArray, List.set_cons_zero, List.set_cons_succ]
    refine wpAnyH_take (i := 9) (oi := { dst := some 29, op := Op.move (Operand.tmp 5), type := 23, pos := "ref.go:23", after := #[], guard := none }) (v := ?vf10) rfl (by kernel_rfl) (by kernel_rfl) (by kernel_rfl) (fun _ _ _ h => h) (Or.inl ⟨by rfl, ?yf10⟩) hS ?_
    case yf10 =>
      intro w hSw
      go_simp; all_goals (with_reducible rfl)
    simp only [Act.put, List.setIfInBounds_toArray, List.set_cons_zero, List.set_cons_succ]
    refine wpAnyH_take (i := 10) (oi := { dst := some 30, op := Op.indexAddr 23 (Operand.tmp 29) (Operand.const (Value.int IntKind.i64 0)), type := 0, pos := "ref.go:23", after := #[{ on := 9, ground := Ground.data }], guard := none }) (v := ?vf11) rfl (by kernel_rfl) (by kernel_rfl) (by kernel_rfl) (fun _ _ _ h => h) (Or.inl ⟨by rfl, ?yf11⟩) hS ?_
    case yf11 =>
      intro w hSw
      go_simp; all_goals (with_reducible rfl)
    simp only [Act.put, List.setIfInBounds_toArray, List.set_cons_zero, List.set_cons_succ]
    refine wpAnyH_take (i := 11) (oi := { dst := some 31, op := Op.load 5 (Operand.tmp 30), type := 5, pos := "ref.go:23", after := #[{ on := 10, ground := Ground.data }], guard := none }) (v := ?vf12) rfl (by kernel_rfl) (by kernel_rfl) (by kernel_rfl) (fun _ _ _ h => h) (Or.inl ⟨by rfl, ?yf12⟩) hS ?_
    case yf12 =>
      intro w hSw
      have c0 := hc0 _ hSw
      have c1 := hc1 _ hSw
      have c2 := hc2 _ hSw
      have c3 := hc3 _ hSw
      go_simp; all_goals (with_reducible rfl)
    simp only [Act.put, List.setIfInBounds_toArray, List.set_cons_zero, List.set_cons_succ]
    refine wpAnyH_ready (rs := [12]) (by kernel_rfl) (by simp) ?_
    refine (AllReadyH.cons (o := { dst := some 32, op := Op.buildSlice 23 4 #[(0, Operand.tmp 22), (1, Operand.tmp 25), (2, Operand.tmp 28), (3, Operand.tmp 31)], type := 23, pos := "ref.go:23", after := #[{ on := 2, ground := Ground.data }, { on := 5, ground := Ground.data }, { on := 8, ground := Ground.data }, { on := 11, ground := Ground.data }], guard := none }) rfl (fun K hK => ?_) AllReadyH.nil)
    go_simp
    refine hK.out _ _ hS2 (fun _ => ?_)
    clear hK K
    refine wpAnyH_take (i := 13) (oi := { dst := some 4, op := Op.assign (Operand.tmp 32), type := 23, pos := "ref.go:23", after := #[{ on := 12, ground := Ground.data }, { on := 0, ground := Ground.phase }, { on := 1, ground := Ground.phase }, { on := 2, ground := Ground.phase }, { on := 3, ground := Ground.phase }, { on := 4, ground := Ground.phase }, { on := 5, ground := Ground.phase }, { on := 6, ground := Ground.phase }, { on := 7, ground := Ground.phase }, { on := 8, ground := Ground.phase }, { on := 9, ground := Ground.phase }, { on := 10, ground := Ground.phase }, { on := 11, ground := Ground.phase }, { on := 12, ground := Ground.phase }], guard := none }) (v := ?vf13) rfl (by kernel_rfl) (by kernel_rfl) (by kernel_rfl) (fun _ _ _ h => h) (Or.inl ⟨by rfl, ?yf13⟩) hS2 ?_
    case yf13 =>
      intro w hSw
      go_simp; all_goals (with_reducible rfl)
    simp only [Act.put, List.setIfInBounds_toArray, List.set_cons_zero, List.set_cons_succ]
    refine wpAnyH_done (by kernel_rfl) ?_ _
    go_wp2_with fail
    go_ret
    exact ⟨_, rfl, ho, hb0.trans (hS2.mono hb0.size)⟩
end Go.Proofs.Ytflklbnebljnmaa
