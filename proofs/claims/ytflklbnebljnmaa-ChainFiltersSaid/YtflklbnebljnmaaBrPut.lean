/- The walk over branch's put. -/
import Derived.Test.YtflklbnebljnmaaBrGet
namespace Go.Proofs.Ytflklbnebljnmaa
open Go.RowKit

/-- Memory with a group's four bytes put. -/
def four (w : World) (b i : Nat) (y0 y1 y2 y3 : Nat) : World := (((w.setCell ⟨b, i, none⟩ (.int .u8 (y0 : Nat))).setCell ⟨b, i + 1, none⟩ (.int .u8 (y1 : Nat))).setCell ⟨b, i + 2, none⟩ (.int .u8 (y2 : Nat))).setCell ⟨b, i + 3, none⟩ (.int .u8 (y3 : Nat))

/-- The same, the last byte first. -/
def fourR (w : World) (b i : Nat) (y0 y1 y2 y3 : Nat) : World := (((w.setCell ⟨b, i + 3, none⟩ (.int .u8 (y3 : Nat))).setCell ⟨b, i + 2, none⟩ (.int .u8 (y2 : Nat))).setCell ⟨b, i + 1, none⟩ (.int .u8 (y1 : Nat))).setCell ⟨b, i, none⟩ (.int .u8 (y0 : Nat))

set_option maxRecDepth 100000 in
set_option maxHeartbeats 1000000 in
theorem put_low (id : Int) (hid : (id == 7 || id == 10) = true) (b i c W y0 y1 y2 y3 : Nat) (x0 x1 x2 x3 : Value) (w : World) (hW : W < 4294967296) (e0 : W % 256 = y0) (e1 : W / 256 % 256 = y1) (e2 : W / 65536 % 256 = y2) (e3 : W / 16777216 % 256 = y3)
    (h0 : w.cell? ⟨b, i, none⟩ = some x0) (h1 : w.cell? ⟨b, i + 1, none⟩ = some x1) (h2 : w.cell? ⟨b, i + 2, none⟩ = some x2) (h3 : w.cell? ⟨b, i + 3, none⟩ = some x3)
    (f0 : w.frozen? ⟨b, i, none⟩ = false) (f1 : w.frozen? ⟨b, i + 1, none⟩ = false) (f2 : w.frozen? ⟨b, i + 2, none⟩ = false) (f3 : w.frozen? ⟨b, i + 3, none⟩ = false) :
    Calls Try.prog 48 #[.int .i64 id, .slice (some ⟨b, i, none⟩) 4 c, .int .u32 (W : Nat)] w fun e w' => e = .returned (.tuple #[]) ∧ four w b i y0 y1 y2 y3 = w' := by
  have HL := low_any id w
  rw [hid] at HL
  have HLL := Lib.hid HL
  have g0 : (W : Int) % 256 = (y0 : Int) := by omega
  have g1 : (W : Int) / 256 % 256 = (y1 : Int) := by omega
  have g2 : (W : Int) / 65536 % 256 = (y2 : Int) := by omega
  have g3 : (W : Int) / 16777216 = (y3 : Int) := by omega
  have g3' : (W : Int) / 16777216 % 256 = (y3 : Int) := by omega
  clear HL hid e0 e1 e2 e3
  go_enter Try.func48, Try.ntmps48
  go_wp2_with fail
  refine HLL.out.mono ?_
  rintro e w' ⟨rfl, rfl⟩
  go_wp2_with fail
  refine bodyPost_ret (v := .tuple #[]) (by simp [results, Try.results48]) rfl ?_
  exact ⟨rfl, rfl⟩

set_option maxRecDepth 100000 in
set_option maxHeartbeats 1000000 in
theorem put_high (id : Int) (hid : (id == 7 || id == 10) = false) (b i c W y0 y1 y2 y3 : Nat) (x0 x1 x2 x3 : Value) (w : World) (hW : W < 4294967296) (e0 : W % 256 = y3) (e1 : W / 256 % 256 = y2) (e2 : W / 65536 % 256 = y1) (e3 : W / 16777216 % 256 = y0)
    (h0 : w.cell? ⟨b, i, none⟩ = some x0) (h1 : w.cell? ⟨b, i + 1, none⟩ = some x1) (h2 : w.cell? ⟨b, i + 2, none⟩ = some x2) (h3 : w.cell? ⟨b, i + 3, none⟩ = some x3)
    (f0 : w.frozen? ⟨b, i, none⟩ = false) (f1 : w.frozen? ⟨b, i + 1, none⟩ = false) (f2 : w.frozen? ⟨b, i + 2, none⟩ = false) (f3 : w.frozen? ⟨b, i + 3, none⟩ = false) :
    Calls Try.prog 48 #[.int .i64 id, .slice (some ⟨b, i, none⟩) 4 c, .int .u32 (W : Nat)] w fun e w' => e = .returned (.tuple #[]) ∧ fourR w b i y0 y1 y2 y3 = w' := by
  have HL := low_any id w
  rw [hid] at HL
  have HLL := Lib.hid HL
  have g0 : (W : Int) % 256 = (y3 : Int) := by omega
  have g1 : (W : Int) / 256 % 256 = (y2 : Int) := by omega
  have g2 : (W : Int) / 65536 % 256 = (y1 : Int) := by omega
  have g3 : (W : Int) / 16777216 = (y0 : Int) := by omega
  have g3' : (W : Int) / 16777216 % 256 = (y0 : Int) := by omega
  clear HL hid e0 e1 e2 e3
  go_enter Try.func48, Try.ntmps48
  go_wp2_with fail
  refine HLL.out.mono ?_
  rintro e w' ⟨rfl, rfl⟩
  go_wp2_with fail
  go_end0
  exact ⟨rfl, rfl⟩
end Go.Proofs.Ytflklbnebljnmaa
