/- The walk over rcdec's New. -/
import Derived.Test.YtaacfdlnoeiojaaRdPlain
namespace Go.Proofs.Ytaacfdlnoeiojaa
open Go.RowKit

/-- Code at first. -/
def Rd.code0 (l : List UInt8) : Nat := (l.getD 1 0).toNat * 16777216 + (l.getD 2 0).toNat * 65536 + (l.getD 3 0).toNat * 256 + (l.getD 4 0).toNat
def Rd.start (l : List UInt8) : Rd.St := ⟨5, Rd.code0 l, 4294967295, false⟩
theorem Rd.code0_lt (l : List UInt8) : Rd.code0 l < 4294967296 := by
  have h1 := (l.getD 1 0).toNat_lt
  have h2 := (l.getD 2 0).toNat_lt
  have h3 := (l.getD 3 0).toNat_lt
  have h4 := (l.getD 4 0).toNat_lt
  unfold Rd.code0; omega
theorem Rd.start_ok {l : List UInt8} (h : 5 ≤ l.length) : (Rd.start l).ok l := ⟨⟨h, Rd.code0_lt l, by show 4294967295 < _; omega⟩, fun _ => by show 16777216 ≤ 4294967295; omega⟩

theorem or_add (a b k : Nat) (hb : b < 2 ^ k) : a * 2 ^ k ||| b = a * 2 ^ k + b := by
  rw [← Nat.shiftLeft_eq, ← Nat.shiftLeft_add_eq_or_of_lt hb]
theorem code_first (a b c d : Nat) (ha : a < 256) (hb : b < 256) (hc : c < 256) (hd : d < 256) :
    bits .or .u32 (bits .or .u32 (bits .or .u32 (IntKind.u32.wrap (IntKind.u32.wrap (a : Int) * 16777216)) (IntKind.u32.wrap (IntKind.u32.wrap (b : Int) * 65536))) (IntKind.u32.wrap (IntKind.u32.wrap (c : Int) * 256))) (IntKind.u32.wrap (d : Int)) = ((a * 16777216 + b * 65536 + c * 256 + d : Nat) : Int) := by
  have w0 : ∀ x : Nat, x < 256 → IntKind.u32.wrap (x : Int) = (x : Int) := fun x hx => by rw [IntKind.wrap_u32]; omega
  rw [w0 a ha, w0 b hb, w0 c hc, w0 d hd]
  have e1 : IntKind.u32.wrap ((a : Int) * 16777216) = ((a * 16777216 : Nat) : Int) := by rw [IntKind.wrap_u32]; omega
  have e2 : IntKind.u32.wrap ((b : Int) * 65536) = ((b * 65536 : Nat) : Int) := by rw [IntKind.wrap_u32]; omega
  have e3 : IntKind.u32.wrap ((c : Int) * 256) = ((c * 256 : Nat) : Int) := by rw [IntKind.wrap_u32]; omega
  have o1 : a * 16777216 ||| b * 65536 = a * 16777216 + b * 65536 := or_add a (b * 65536) 24 (by omega)
  have o2 : (a * 16777216 + b * 65536) ||| c * 256 = a * 16777216 + b * 65536 + c * 256 := by
    have := or_add (a * 256 + b) (c * 256) 16 (by omega)
    rw [show (a * 256 + b) * 2 ^ 16 = a * 16777216 + b * 65536 by omega] at this; exact this
  have o3 : (a * 16777216 + b * 65536 + c * 256) ||| d = a * 16777216 + b * 65536 + c * 256 + d := by
    have := or_add (a * 65536 + b * 256 + c) d 8 (by omega)
    rw [show (a * 65536 + b * 256 + c) * 2 ^ 8 = a * 16777216 + b * 65536 + c * 256 by omega] at this; exact this
  rw [e1, e2, e3, u32_or_nat _ _ (by omega) (by omega), o1, u32_or_nat _ _ (by omega) (by omega), o2, u32_or_nat _ _ (by omega) (by omega), o3]

/-- What New comes to. -/
def DNone (w : World) (n : Int) (e : Ending) (w' : World) : Prop := e = .returned (.tuple #[.pointer none, .int .i64 n]) ∧ w = w'
def DSome (w : World) (l : List UInt8) (e : Ending) (w' : World) : Prop :=
  ∃ g o cap, e = .returned (.tuple #[.pointer (some ⟨g, 0, none⟩), .int .i64 0]) ∧ DecIs w' g o cap l (Rd.start l) ∧ Below w.heap.size w w' ∧ w.heap.size ≤ g ∧ w.heap.size ≤ o

set_option maxRecDepth 100000 in
set_option maxHeartbeats 1000000 in
theorem dnew_short (A : Option Addr) (l : List UInt8) (c : Nat) (w : World) (h : l.length < 5) :
    Calls Try.prog 6 #[.slice A l.length c] w (DNone w 2) := by
  generalize l.length = L at *
  have h' : (L : Int) < 5 := by omega
  go_enter Try.func6, Try.ntmps6
  go_wp2_with fail
  go_ret2
  exact ⟨rfl, rfl⟩

theorem Bytes.five {w : World} {A : Option Addr} {l : List UInt8} (hB : Bytes w A l) (h : 5 ≤ l.length) : ∃ b off, A = some ⟨b, off, none⟩ ∧ b < w.heap.size ∧ ∀ k, k < l.length → w.cell? ⟨b, off + k, none⟩ = some (B8 (l.getD k 0)) := by
  obtain ⟨b, off, rfl, hb, hc⟩ := hB.addr (by omega)
  refine ⟨b, off, rfl, hb, fun k hk => ?_⟩
  rw [hc k hk]; simp [List.getD, hk]

set_option maxRecDepth 100000 in
set_option maxHeartbeats 1000000 in
theorem dnew_bad (A : Option Addr) (l : List UInt8) (c : Nat) (w : World) (hB : Bytes w A l) (h : 5 ≤ l.length) (h0 : l.getD 0 0 ≠ 0) :
    Calls Try.prog 6 #[.slice A l.length c] w (DNone w 6) := by
  obtain ⟨b, off, rfl, hb, hc⟩ := hB.five h
  have k0 := hc 0 (by omega)
  rw [Nat.add_zero] at k0
  have hne : ((l.getD 0 0).toNat : Int) != 0 := by
    rw [bne_iff_ne]; intro he; exact h0 (UInt8.toNat_inj.1 (by simpa using he))
  generalize l.getD 0 0 = b0 at *
  generalize l.length = L at *
  have h' : ¬ (L : Int) < 5 := by omega
  have h5 : 0 < L := by omega
  have h6 : ((b0.toNat : Int) == 0) = false := by rw [beq_eq_false_iff_ne]; exact bne_iff_ne.1 hne
  clear hc h0
  go_enter Try.func6, Try.ntmps6
  go_wp2_with fail
  go_ret2
  exact ⟨rfl, rfl⟩

set_option maxRecDepth 100000 in
set_option maxHeartbeats 1000000 in
theorem dnew_good (A : Option Addr) (l : List UInt8) (c : Nat) (w : World) (hB : Bytes w A l) (h : 5 ≤ l.length) (hl : l.length ≤ 140737488355328) (h0 : l.getD 0 0 = 0) :
    Calls Try.prog 6 #[.slice A l.length c] w (DSome w l) := by
  have hB0 := hB
  obtain ⟨b, off, rfl, hb, hc⟩ := hB.five h
  have k0 := hc 0 (by omega)
  have k1 := hc 1 (by omega)
  have k2 := hc 2 (by omega)
  have k3 := hc 3 (by omega)
  have k4 := hc 4 (by omega)
  rw [Nat.add_zero, h0] at k0
  have hcf := code_first _ _ _ _ (l.getD 1 0).toNat_lt (l.getD 2 0).toNat_lt (l.getD 3 0).toNat_lt (l.getD 4 0).toNat_lt
  have hcd : (l.getD 1 0).toNat * 16777216 + (l.getD 2 0).toNat * 65536 + (l.getD 3 0).toNat * 256 + (l.getD 4 0).toNat = Rd.code0 l := rfl
  rw [hcd] at hcf
  clear hcd
  generalize l.getD 1 0 = b1 at *
  generalize l.getD 2 0 = b2 at *
  generalize l.getD 3 0 = b3 at *
  generalize l.getD 4 0 = b4 at *
  have HCF := Lib.hid hcf
  have HSRC : Value.slice (some ⟨b, off, none⟩) l.length c = .slice (some ⟨b, off, none⟩) l.length c := rfl
  have hfit : ([] : List UInt8).length + l.length ≤ 140737488355328 := by simpa using hl
  have hBd : Bytes w.drew (some ⟨b, off, none⟩) l := hB0
  have HSR := Lib.hid HSRC
  generalize hL : l.length = L at *
  have HL := Lib.hid hL
  have h' : ¬ (L : Int) < 5 := by omega
  have g0 : 0 < L := by omega
  have g1 : 1 < L := by omega
  have g2 : 2 < L := by omega
  have g3 : 3 < L := by omega
  have g4 : 4 < L := by omega
  have i1 : (1 : Int) < (L : Int) := by omega
  have i2 : (2 : Int) < (L : Int) := by omega
  have i3 : (3 : Int) < (L : Int) := by omega
  have i4 : (4 : Int) < (L : Int) := by omega
  clear hc h0 hcf hL HSRC hB
  go_enter Try.func6, Try.ntmps6
  go_wp2_with fail
  refine wp_region_held_drew (S := fun w' => w'.cell? ⟨b, off + 1, none⟩ = some (B8 b1) ∧ w'.cell? ⟨b, off + 2, none⟩ = some (B8 b2) ∧ w'.cell? ⟨b, off + 3, none⟩ = some (B8 b3) ∧ w'.cell? ⟨b, off + 4, none⟩ = some (B8 b4)) (by kernel_rfl) ⟨k1, k2, k3, k4⟩ (fun hS => ?_)
  refine wpAnyH_take (i := 0) (oi := { dst := some 12, op := Op.move (Operand.tmp 0), type := 22, pos := "rcdec.go:32", after := #[], guard := none }) (v := ?vn1) rfl (by kernel_rfl) (by kernel_rfl) (by kernel_rfl) (fun _ _ _ h => h) (Or.inl ⟨by rfl, ?yn1⟩) hS ?_
  case yn1 =>
    intro w hSw
    go_simp; all_goals (with_reducible rfl)
  simp only [Act.put, List.setIfInBounds_toArray, List.set_cons_zero, List.set_cons_succ]
  refine wpAnyH_take (i := 1) (oi := { dst := some 13, op := Op.indexAddr 22 (Operand.tmp 12) (Operand.const (Value.int IntKind.i64 1)), type := 0, pos := "rcdec.go:32", after := #[{ on := 0, ground := Ground.data }], guard := none }) (v := ?vn2) rfl (by kernel_rfl) (by kernel_rfl) (by kernel_rfl) (fun _ _ _ h => h) (Or.inl ⟨by rfl, ?yn2⟩) hS ?_
  case yn2 =>
    intro w hSw
    go_simp; all_goals (with_reducible rfl)
  simp only [Act.put, List.setIfInBounds_toArray, List.set_cons_zero, List.set_cons_succ]
  refine wpAnyH_take (i := 2) (oi := { dst := some 14, op := Op.load 5 (Operand.tmp 13), type := 5, pos := "rcdec.go:32", after := #[{ on := 1, ground := Ground.data }], guard := none }) (v := ?vn3) rfl (by kernel_rfl) (by kernel_rfl) (by kernel_rfl) (fun _ _ _ h => h) (Or.inl ⟨by rfl, ?yn3⟩) hS ?_
  case yn3 =>
    intro w hSw
    obtain ⟨j1, j2, j3, j4⟩ := hSw
    go_simp; all_goals (with_reducible rfl)
  simp only [Act.put, List.setIfInBounds_toArray, List.set_cons_zero, List.set_cons_succ]
  refine wpAnyH_take (i := 3) (oi := { dst := some 15, op := Op.convert 5 33 (Operand.tmp 14), type := 33, pos := "rcdec.go:32", after := #[{ on := 2, ground := Ground.data }], guard := none }) (v := ?vn4) rfl (by kernel_rfl) (by kernel_rfl) (by kernel_rfl) (fun _ _ _ h => h) (Or.inl ⟨by rfl, ?yn4⟩) hS ?_
  case yn4 =>
    intro w hSw
    go_simp; all_goals (with_reducible rfl)
  simp only [Act.put, List.setIfInBounds_toArray, List.set_cons_zero, List.set_cons_succ]
  refine wpAnyH_take (i := 4) (oi := { dst := some 16, op := Op.binOp BinOp.shl 33 (Operand.tmp 15) (Operand.const (Value.int IntKind.u64 24)) 51, type := 33, pos := "rcdec.go:32", after := #[{ on := 3, ground := Ground.data }], guard := none }) (v := ?vn5) rfl (by kernel_rfl) (by kernel_rfl) (by kernel_rfl) (fun _ _ _ h => h) (Or.inl ⟨by rfl, ?yn5⟩) hS ?_
  case yn5 =>
    intro w hSw
    go_simp; all_goals (with_reducible rfl)
  simp only [Act.put, List.setIfInBounds_toArray, List.set_cons_zero, List.set_cons_succ]
  refine wpAnyH_take (i := 5) (oi := { dst := some 17, op := Op.move (Operand.tmp 0), type := 22, pos := "rcdec.go:32", after := #[], guard := none }) (v := ?vn6) rfl (by kernel_rfl) (by kernel_rfl) (by kernel_rfl) (fun _ _ _ h => h) (Or.inl ⟨by rfl, ?yn6⟩) hS ?_
  case yn6 =>
    intro w hSw
    go_simp; all_goals (with_reducible rfl)
  simp only [Act.put, List.setIfInBounds_toArray, List.set_cons_zero, List.set_cons_succ]
  refine wpAnyH_take (i := 6) (oi := { dst := some 18, op := Op.indexAddr 22 (Operand.tmp 17) (Operand.const (Value.int IntKind.i64 2)), type := 0, pos := "rcdec.go:32", after := #[{ on := 5, ground := Ground.data }], guard := none }) (v := ?vn7) rfl (by kernel_rfl) (by kernel_rfl) (by kernel_rfl) (fun _ _ _ h => h) (Or.inl ⟨by rfl, ?yn7⟩) hS ?_
  case yn7 =>
    intro w hSw
    go_simp; all_goals (with_reducible rfl)
  simp only [Act.put, List.setIfInBounds_toArray, List.set_cons_zero, List.set_cons_succ]
  refine wpAnyH_take (i := 7) (oi := { dst := some 19, op := Op.load 5 (Operand.tmp 18), type := 5, pos := "rcdec.go:32", after := #[{ on := 6, ground := Ground.data }], guard := none }) (v := ?vn8) rfl (by kernel_rfl) (by kernel_rfl) (by kernel_rfl) (fun _ _ _ h => h) (Or.inl ⟨by rfl, ?yn8⟩) hS ?_
  case yn8 =>
    intro w hSw
    obtain ⟨j1, j2, j3, j4⟩ := hSw
    go_simp; all_goals (with_reducible rfl)
  simp only [Act.put, List.setIfInBounds_toArray, List.set_cons_zero, List.set_cons_succ]
  refine wpAnyH_take (i := 8) (oi := { dst := some 20, op := Op.convert 5 33 (Operand.tmp 19), type := 33, pos := "rcdec.go:32", after := #[{ on := 7, ground := Ground.data }], guard := none }) (v := ?vn9) rfl (by kernel_rfl) (by kernel_rfl) (by kernel_rfl) (fun _ _ _ h => h) (Or.inl ⟨by rfl, ?yn9⟩) hS ?_
  case yn9 =>
    intro w hSw
    go_simp; all_goals (with_reducible rfl)
  simp only [Act.put, List.setIfInBounds_toArray, List.set_cons_zero, List.set_cons_succ]
  refine wpAnyH_take (i := 9) (oi := { dst := some 21, op := Op.binOp BinOp.shl 33 (Operand.tmp 20) (Operand.const (Value.int IntKind.u64 16)) 51, type := 33, pos := "rcdec.go:32", after := #[{ on := 8, ground := Ground.data }], guard := none }) (v := ?vn10) rfl (by kernel_rfl) (by kernel_rfl) (by kernel_rfl) (fun _ _ _ h => h) (Or.inl ⟨by rfl, ?yn10⟩) hS ?_
  case yn10 =>
    intro w hSw
    go_simp; all_goals (with_reducible rfl)
  simp only [Act.put, List.setIfInBounds_toArray, List.set_cons_zero, List.set_cons_succ]
  refine wpAnyH_take (i := 10) (oi := { dst := some 22, op := Op.binOp BinOp.or 33 (Operand.tmp 16) (Operand.tmp 21) 33, type := 33, pos := "rcdec.go:32", after := #[{ on := 4, ground := Ground.data }, { on := 9, ground := Ground.data }], guard := none }) (v := ?vn11) rfl (by kernel_rfl) (by kernel_rfl) (by kernel_rfl) (fun _ _ _ h => h) (Or.inl ⟨by rfl, ?yn11⟩) hS ?_
  case yn11 =>
    intro w hSw
    go_simp; all_goals (with_reducible rfl)
  simp only [Act.put, List.setIfInBounds_toArray, List.set_cons_zero, List.set_cons_succ]
  refine wpAnyH_take (i := 11) (oi := { dst := some 23, op := Op.move (Operand.tmp 0), type := 22, pos := "rcdec.go:32", after := #[], guard := none }) (v := ?vn12) rfl (by kernel_rfl) (by kernel_rfl) (by kernel_rfl) (fun _ _ _ h => h) (Or.inl ⟨by rfl, ?yn12⟩) hS ?_
  case yn12 =>
    intro w hSw
    go_simp; all_goals (with_reducible rfl)
  simp only [Act.put, List.setIfInBounds_toArray, List.set_cons_zero, List.set_cons_succ]
  refine wpAnyH_take (i := 12) (oi := { dst := some 24, op := Op.indexAddr 22 (Operand.tmp 23) (Operand.const (Value.int IntKind.i64 3)), type := 0, pos := "rcdec.go:32", after := #[{ on := 11, ground := Ground.data }], guard := none }) (v := ?vn13) rfl (by kernel_rfl) (by kernel_rfl) (by kernel_rfl) (fun _ _ _ h => h) (Or.inl ⟨by rfl, ?yn13⟩) hS ?_
  case yn13 =>
    intro w hSw
    go_simp; all_goals (with_reducible rfl)
  simp only [Act.put, List.setIfInBounds_toArray, List.set_cons_zero, List.set_cons_succ]
  refine wpAnyH_take (i := 13) (oi := { dst := some 25, op := Op.load 5 (Operand.tmp 24), type := 5, pos := "rcdec.go:32", after := #[{ on := 12, ground := Ground.data }], guard := none }) (v := ?vn14) rfl (by kernel_rfl) (by kernel_rfl) (by kernel_rfl) (fun _ _ _ h => h) (Or.inl ⟨by rfl, ?yn14⟩) hS ?_
  case yn14 =>
    intro w hSw
    obtain ⟨j1, j2, j3, j4⟩ := hSw
    go_simp; all_goals (with_reducible rfl)
  simp only [Act.put, List.setIfInBounds_toArray, List.set_cons_zero, List.set_cons_succ]
  refine wpAnyH_take (i := 14) (oi := { dst := some 26, op := Op.convert 5 33 (Operand.tmp 25), type := 33, pos := "rcdec.go:32", after := #[{ on := 13, ground := Ground.data }], guard := none }) (v := ?vn15) rfl (by kernel_rfl) (by kernel_rfl) (by kernel_rfl) (fun _ _ _ h => h) (Or.inl ⟨by rfl, ?yn15⟩) hS ?_
  case yn15 =>
    intro w hSw
    go_simp; all_goals (with_reducible rfl)
  simp only [Act.put, List.setIfInBounds_toArray, List.set_cons_zero, List.set_cons_succ]
  refine wpAnyH_take (i := 15) (oi := { dst := some 27, op := Op.binOp BinOp.shl 33 (Operand.tmp 26) (Operand.const (Value.int IntKind.u64 8)) 51, type := 33, pos := "rcdec.go:32", after := #[{ on := 14, ground := Ground.data }], guard := none }) (v := ?vn16) rfl (by kernel_rfl) (by kernel_rfl) (by kernel_rfl) (fun _ _ _ h => h) (Or.inl ⟨by rfl, ?yn16⟩) hS ?_
  case yn16 =>
    intro w hSw
    go_simp; all_goals (with_reducible rfl)
  simp only [Act.put, List.setIfInBounds_toArray, List.set_cons_zero, List.set_cons_succ]
  refine wpAnyH_take (i := 16) (oi := { dst := some 28, op := Op.binOp BinOp.or 33 (Operand.tmp 22) (Operand.tmp 27) 33, type := 33, pos := "rcdec.go:32", after := #[{ on := 10, ground := Ground.data }, { on := 15, ground := Ground.data }], guard := none }) (v := ?vn17) rfl (by kernel_rfl) (by kernel_rfl) (by kernel_rfl) (fun _ _ _ h => h) (Or.inl ⟨by rfl, ?yn17⟩) hS ?_
  case yn17 =>
    intro w hSw
    go_simp; all_goals (with_reducible rfl)
  simp only [Act.put, List.setIfInBounds_toArray, List.set_cons_zero, List.set_cons_succ]
  refine wpAnyH_take (i := 17) (oi := { dst := some 29, op := Op.move (Operand.tmp 0), type := 22, pos := "rcdec.go:32", after := #[], guard := none }) (v := ?vn18) rfl (by kernel_rfl) (by kernel_rfl) (by kernel_rfl) (fun _ _ _ h => h) (Or.inl ⟨by rfl, ?yn18⟩) hS ?_
  case yn18 =>
    intro w hSw
    go_simp; all_goals (with_reducible rfl)
  simp only [Act.put, List.setIfInBounds_toArray, List.set_cons_zero, List.set_cons_succ]
  refine wpAnyH_take (i := 18) (oi := { dst := some 30, op := Op.indexAddr 22 (Operand.tmp 29) (Operand.const (Value.int IntKind.i64 4)), type := 0, pos := "rcdec.go:32", after := #[{ on := 17, ground := Ground.data }], guard := none }) (v := ?vn19) rfl (by kernel_rfl) (by kernel_rfl) (by kernel_rfl) (fun _ _ _ h => h) (Or.inl ⟨by rfl, ?yn19⟩) hS ?_
  case yn19 =>
    intro w hSw
    go_simp; all_goals (with_reducible rfl)
  simp only [Act.put, List.setIfInBounds_toArray, List.set_cons_zero, List.set_cons_succ]
  refine wpAnyH_take (i := 19) (oi := { dst := some 31, op := Op.load 5 (Operand.tmp 30), type := 5, pos := "rcdec.go:32", after := #[{ on := 18, ground := Ground.data }], guard := none }) (v := ?vn20) rfl (by kernel_rfl) (by kernel_rfl) (by kernel_rfl) (fun _ _ _ h => h) (Or.inl ⟨by rfl, ?yn20⟩) hS ?_
  case yn20 =>
    intro w hSw
    obtain ⟨j1, j2, j3, j4⟩ := hSw
    go_simp; all_goals (with_reducible rfl)
  simp only [Act.put, List.setIfInBounds_toArray, List.set_cons_zero, List.set_cons_succ]
  refine wpAnyH_take (i := 20) (oi := { dst := some 32, op := Op.convert 5 33 (Operand.tmp 31), type := 33, pos := "rcdec.go:32", after := #[{ on := 19, ground := Ground.data }], guard := none }) (v := ?vn21) rfl (by kernel_rfl) (by kernel_rfl) (by kernel_rfl) (fun _ _ _ h => h) (Or.inl ⟨by rfl, ?yn21⟩) hS ?_
  case yn21 =>
    intro w hSw
    go_simp; all_goals (with_reducible rfl)
  simp only [Act.put, List.setIfInBounds_toArray, List.set_cons_zero, List.set_cons_succ]
  refine wpAnyH_take (i := 21) (oi := { dst := some 33, op := Op.binOp BinOp.or 33 (Operand.tmp 28) (Operand.tmp 32) 33, type := 33, pos := "rcdec.go:32", after := #[{ on := 16, ground := Ground.data }, { on := 20, ground := Ground.data }], guard := none }) (v := ?vn22) rfl (by kernel_rfl) (by kernel_rfl) (by kernel_rfl) (fun _ _ _ h => h) (Or.inl ⟨by rfl, ?yn22⟩) hS ?_
  case yn22 =>
    intro w hSw
    go_simp; all_goals (with_reducible rfl)
  simp only [Act.put, List.setIfInBounds_toArray, List.set_cons_zero, List.set_cons_succ]
  refine wpAnyH_take (i := 22) (oi := { dst := some 4, op := Op.assign (Operand.tmp 33), type := 33, pos := "rcdec.go:32", after := #[{ on := 21, ground := Ground.data }, { on := 0, ground := Ground.phase }, { on := 1, ground := Ground.phase }, { on := 2, ground := Ground.phase }, { on := 3, ground := Ground.phase }, { on := 4, ground := Ground.phase }, { on := 5, ground := Ground.phase }, { on := 6, ground := Ground.phase }, { on := 7, ground := Ground.phase }, { on := 8, ground := Ground.phase }, { on := 9, ground := Ground.phase }, { on := 10, ground := Ground.phase }, { on := 11, ground := Ground.phase }, { on := 12, ground := Ground.phase }, { on := 13, ground := Ground.phase }, { on := 14, ground := Ground.phase }, { on := 15, ground := Ground.phase }, { on := 16, ground := Ground.phase }, { on := 17, ground := Ground.phase }, { on := 18, ground := Ground.phase }, { on := 19, ground := Ground.phase }, { on := 20, ground := Ground.phase }, { on := 21, ground := Ground.phase }], guard := none }) (v := ?vn23) rfl (by kernel_rfl) (by kernel_rfl) (by kernel_rfl) (fun _ _ _ h => h) (Or.inl ⟨by rfl, ?yn23⟩) hS ?_
  case yn23 =>
    intro w hSw
    go_simp; all_goals (with_reducible rfl)
  simp only [Act.put, List.setIfInBounds_toArray, List.set_cons_zero, List.set_cons_succ]
  refine wpAnyH_done (by kernel_rfl) ?_ _
  rw [HCF.out]
  have hsr : Value.slice (some ⟨b, off, none⟩) L c = .slice (some ⟨b, off, none⟩) l.length c := by rw [HL.out]
  have HSR := Lib.hid hsr
  have hon : Own w.heap.size w.drew (.slice none 0 0) [] := Own.nil _ _
  have hs0 : w.heap.size ≤ w.drew.heap.size := Nat.le_refl _
  have hfit2 : ([] : List UInt8).length + l.length ≤ 140737488355328 := by rw [HL.out]; exact hfit
  have hdr : Below w.heap.size w w.drew := (Below.refl _ _).drew
  generalize hC : Rd.code0 l = C at *
  have HC := Lib.hid hC
  clear hsr k0 k1 k2 k3 k4 HCF hC
  generalize w.drew = wd at *
  go_wp2_with (at_builtin; refine wpList_append_bytes rfl (.const (.slice none 0 0)) (.tmp 35) rfl w.heap.size wd (.slice none 0 0) [] rfl hon (some ⟨b, off, none⟩) l c HSR.out hBd hfit2 hs0 ?_; intro v2 w4 ho4 hg4; have hb4 : Below w.heap.size w w4 := below_grown hdr hg4 hs0 (fun g' hg' => by cases hg'); rw [List.nil_append] at ho4; unfold Own at ho4; rw [HL.out] at ho4; obtain ⟨gb, capb, rfl, hgb, hgblt⟩ := World.ownsRow.form ho4 g0)
  go_ret2
  have hsz := hb4.size
  obtain ⟨A2, c2, he, _, _, hrd⟩ := Own.read (base := w.heap.size) (l := l) (by unfold Own; rw [HL.out]; exact ho4)
  injection he with he1 he2 he3
  subst he1
  refine ⟨w4.heap.size, gb, capb, rfl, ⟨C, 4294967295, fun _ => ⟨HC.out.symm, rfl⟩, ?_, hrd.alloc _, by omega, by simp; omega⟩, hb4.alloc hsz _, hsz, hgb⟩
  rw [HL.out]
  exact heap_alloc_new w4 _
end Go.Proofs.Ytaacfdlnoeiojaa
