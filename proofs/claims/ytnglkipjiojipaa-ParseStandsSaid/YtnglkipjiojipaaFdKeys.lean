/- Keys of the finder's maps: two bytes, four bytes. -/
import Derived.Test.YtnglkipjiojipaaLift
import Derived.WideKeyArr
import Derived.WideKeyEntry
import Derived.Maps.OwnSet
namespace Go.Proofs.Ytnglkipjiojipaa
open Go.Maps Go.WideMaps

theorem arr2 : ArrKey Try.prog 61 5 2 := ⟨Try.underlying61, by kernel_rfl, cells8, by kernel_rfl⟩
theorem arr4 : ArrKey Try.prog 63 5 4 := ⟨Try.underlying63, by kernel_rfl, cells8, by kernel_rfl⟩
theorem keyed2 : Keyed Try.prog 61 := Keyed.of_law arr2.law
theorem keyed4 : Keyed Try.prog 63 := Keyed.of_law arr4.law
def pairV (a b : UInt8) : Value := .agg #[.int .u8 (a.toNat : Nat), .int .u8 (b.toNat : Nat)]
def fourV (a b c d : UInt8) : Value := .agg #[.int .u8 (a.toNat : Nat), .int .u8 (b.toNat : Nat), .int .u8 (c.toNat : Nat), .int .u8 (d.toNat : Nat)]
theorem pairV_inj {a b a' b' : UInt8} (h : pairV a b = pairV a' b') : a = a' ∧ b = b' := by
  unfold pairV at h
  simp at h
  exact ⟨UInt8.toNat_inj.1 (by omega), UInt8.toNat_inj.1 (by omega)⟩
theorem fourV_inj {a b c d a' b' c' d' : UInt8} (h : fourV a b c d = fourV a' b' c' d') : a = a' ∧ b = b' ∧ c = c' ∧ d = d' := by
  unfold fourV at h
  simp at h
  exact ⟨UInt8.toNat_inj.1 (by omega), UInt8.toNat_inj.1 (by omega), UInt8.toNat_inj.1 (by omega), UInt8.toNat_inj.1 (by omega)⟩
theorem wfByte (a : UInt8) : (Lit.int .u8 (a.toNat : Nat)).wf = true := by
  have h := a.toNat_lt
  have e1 : IntKind.u8.min = 0 := rfl
  have e2 : IntKind.u8.max = 255 := rfl
  simp [Lit.wf, e1, e2]; omega
theorem kt2 : Try.prog.keyType 61 = true := by kernel_rfl
theorem kt4 : Try.prog.keyType 63 = true := by kernel_rfl
theorem size0 : ∃ m, Try.prog.types.size = m + 1 := ⟨Try.prog.types.size - 1, by kernel_rfl⟩
theorem key2 (a b : UInt8) : ∃ l, keyOf Try.prog 61 (pairV a b) = some l := by
  obtain ⟨m, hm⟩ := size0
  unfold keyOf pairV
  rw [Try.underlying61, hm]
  simp [kt2, Value.formed, Try.underlying61, arr2.size, Program.keyLits, Try.underlying5, cells8, Value.cells, wfByte, List.range_succ, List.mapM_cons]
theorem key4 (a b c d : UInt8) : ∃ l, keyOf Try.prog 63 (fourV a b c d) = some l := by
  obtain ⟨m, hm⟩ := size0
  unfold keyOf fourV
  rw [Try.underlying63, hm]
  simp [kt4, Value.formed, Try.underlying63, arr4.size, Program.keyLits, Try.underlying5, cells8, Value.cells, wfByte, List.range_succ, List.mapM_cons]
/-- What a map's key reads as. -/
noncomputable def lit2 (a b : UInt8) : Lit := Classical.choose (key2 a b)
theorem lit2_spec (a b : UInt8) : keyOf Try.prog 61 (pairV a b) = some (lit2 a b) := Classical.choose_spec (key2 a b)
theorem lit2_inj {a b a' b' : UInt8} (h : lit2 a b = lit2 a' b') : a = a' ∧ b = b' := pairV_inj (keyed2.inj (lit2_spec a b) (h ▸ lit2_spec a' b'))
noncomputable def lit4 (a b c d : UInt8) : Lit := Classical.choose (key4 a b c d)
theorem lit4_spec (a b c d : UInt8) : keyOf Try.prog 63 (fourV a b c d) = some (lit4 a b c d) := Classical.choose_spec (key4 a b c d)
theorem lit4_inj {a b c d a' b' c' d' : UInt8} (h : lit4 a b c d = lit4 a' b' c' d') : a = a' ∧ b = b' ∧ c = c' ∧ d = d' := fourV_inj (keyed4.inj (lit4_spec a b c d) (h ▸ lit4_spec a' b' c' d'))
end Go.Proofs.Ytnglkipjiojipaa
