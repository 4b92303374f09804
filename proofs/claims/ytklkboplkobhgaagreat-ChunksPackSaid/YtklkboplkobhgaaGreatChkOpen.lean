/- Options that came in. -/
import Derived.Test.YtklkboplkobhgaaGreatLift
import Derived.Test.YtklkboplkobhgaaGreatChkFine
import Derived.Deep.Slices
import Derived.Deep.Fields
import Derived.ChangeSame
import Derived.Lib.SmallJoins
namespace Go.Proofs.YtklkboplkobhgaaGreat
set_option maxRecDepth 100000
open Go.ChangeShapes Go.WideShapes Go.ChangeAt Go.RowKit Go.Joins

set_option maxRecDepth 100000 in
theorem has_block {W : World} {b0 : Nat} {t e : TypeId} {a : Addr} {len cap : Nat} (ht : Tryz.prog.underlying t = some (.slice e)) (h : Value.okWide Tryz.prog W .any b0 t (.slice (some a) len cap)) : a.block < W.heap.size := by
  simp only [Value.okWide, ht, Cell.okWide, Cell.ok, World.has] at h
  obtain ⟨_, _, _, _, row, cells, hs, _⟩ := h
  rcases Nat.lt_or_ge a.block W.heap.size with h | h
  · exact h
  · unfold World.shape? at hs
    rw [Array.getElem?_eq_none h] at hs
    cases hs
set_option maxRecDepth 100000 in
theorem open_bytesb {H : Type} {enc : TypeId × Value → H} {W : World} {b0 : Nat} {v : Value} {d : DataW H} {p : List MemPlace}
    (hval : Value.okWide Tryz.prog W .any b0 22 v) (h : DataW.Trod enc Tryz.prog W 0 (fun _ => true) true 22 v d p) :
    ∃ (A : Option Addr) (l : List UInt8) (c : Nat), v = .slice A l.length c ∧ l.length ≤ c ∧ c ≤ 9223372036854775807 ∧ (Bytes W A l ∧ ∀ a, A = some a → a.block < W.heap.size) := by
  obtain ⟨A, l, c, rfl, h1, h2, h3⟩ := open_bytes hval h
  refine ⟨A, l, c, rfl, h1, h2, h3, fun a e => ?_⟩
  subst e
  exact has_block Tryz.underlying22 hval
theorem list9 {l : List Value} (h : l.length = 9) : ∃ a b c d e f g i j, l = [a, b, c, d, e, f, g, i, j] := by
  match l, h with
  | [a, b, c, d, e, f, g, i, j], _ => exact ⟨a, b, c, d, e, f, g, i, j, rfl⟩
set_option maxRecDepth 100000 in
theorem one_field {H : Type} {enc : TypeId × Value → H} {W : World} {n : Nat} {t : TypeId} {k : IntKind} {cs : List Value} {j : Nat} {y : Option (DataW H × List MemPlace)} (hk : Tryz.prog.underlying t = some (.int k)) (hl : j < cs.length)
    (hy : y.isSome = true) (h : DataW.trod enc Tryz.prog W 0 (fun _ => true) true n t ((cs.drop j).take 1) = y) : ∃ z, cs[j]? = some (.int k z) ∧ (Lit.int k z).wf = true := by
  obtain ⟨x, rfl⟩ := Option.isSome_iff_exists.1 hy
  obtain ⟨z, hz, _, hw⟩ := DataW.trod_int hk h
  refine ⟨z, ?_, hw⟩
  have e : (cs.drop j).take 1 = [cs[j]] := by rw [List.drop_eq_getElem_cons hl]; rfl
  rw [e] at hz
  injection hz with hz
  rw [List.getElem?_eq_getElem hl, hz]
theorem cellsOpt : Tryz.prog.cellsOf 26 = 9 := by kernel_rfl
set_option maxRecDepth 100000 in
theorem open_opts {H : Type} {enc : TypeId × Value → H} {W : World} {b0 : Nat} {v : Value} {d : DataW H} {p : List MemPlace}
    (hval : Value.okWide Tryz.prog W .any b0 26 v) (h : DataW.Trod enc Tryz.prog W 0 (fun _ => true) true 26 v d p) :
    ∃ (lc lp pb nice chunk block check : Int) (chain : Value) (dict : Nat), v = OptV lc lp pb nice chunk block check chain dict ∧ dict < 4294967296 := by
  obtain ⟨cs, rfl, hsz⟩ := okWide_struct Tryz.underlying26 hval
  rw [cellsOpt] at hsz
  obtain ⟨a, b, c, d', e, f, g, i, j, hl⟩ := list9 (l := cs.toList) (by simpa using hsz)
  obtain ⟨fuel, hf⟩ := h
  obtain ⟨ys, n', _, _, _, hyl, hfs⟩ := DataW.trod_struct Tryz.underlying26 hf
  have hsome : ∀ j, j < 9 → ys[j]?.isSome = true := fun j hj => by
    rw [List.getElem?_eq_getElem (by rw [hyl]; exact hj)]; rfl
  have hcl : (Value.agg cs).cells.toList.length = 9 := by simpa [Value.cells] using hsz
  obtain ⟨z0, e0, w0⟩ := one_field (j := 0) Tryz.underlying3 (by omega) (hsome 0 (by omega)) (hfs 0 _ rfl)
  obtain ⟨z1, e1, w1⟩ := one_field (j := 1) Tryz.underlying3 (by omega) (hsome 1 (by omega)) (hfs 1 _ rfl)
  obtain ⟨z2, e2, w2⟩ := one_field (j := 2) Tryz.underlying3 (by omega) (hsome 2 (by omega)) (hfs 2 _ rfl)
  obtain ⟨z3, e3, w3⟩ := one_field (j := 3) Tryz.underlying3 (by omega) (hsome 3 (by omega)) (hfs 3 _ rfl)
  obtain ⟨z4, e4, w4⟩ := one_field (j := 4) Tryz.underlying3 (by omega) (hsome 4 (by omega)) (hfs 4 _ rfl)
  obtain ⟨z5, e5, w5⟩ := one_field (j := 5) Tryz.underlying3 (by omega) (hsome 5 (by omega)) (hfs 5 _ rfl)
  obtain ⟨z6, e6, w6⟩ := one_field (j := 6) Tryz.underlying3 (by omega) (hsome 6 (by omega)) (hfs 6 _ rfl)
  obtain ⟨z8, e8, w8⟩ := one_field (j := 8) Tryz.underlying24 (by omega) (hsome 8 (by omega)) (hfs 8 _ rfl)
  have hce : (Value.agg cs).cells.toList = [a, b, c, d', e, f, g, i, j] := hl
  rw [hce] at e0 e1 e2 e3 e4 e5 e6 e8
  simp only [List.getElem?_cons_zero, List.getElem?_cons_succ, Option.some.injEq] at e0 e1 e2 e3 e4 e5 e6 e8
  subst e0 e1 e2 e3 e4 e5 e6 e8
  refine ⟨z0, z1, z2, z3, z4, z5, z6, i, (BitVec.ofNat 32 z8.toNat).toNat, ?_, (BitVec.ofNat 32 z8.toNat).isLt⟩
  have e32 := wf_bv32 w8
  show Value.agg cs = .agg #[.int .i64 z0, .int .i64 z1, .int .i64 z2, .int .i64 z3, .int .i64 z4, .int .i64 z5, .int .i64 z6, i, .int .u32 ((BitVec.ofNat 32 z8.toNat).toNat : Nat)]
  rw [← e32]
  obtain ⟨cl⟩ := cs
  have : cl = _ := hl
  subst this
  rfl
end Go.Proofs.YtklkboplkobhgaaGreat
