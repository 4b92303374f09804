/- ChainFilters: for every input the law returns true, and its arguments read as before. -/
import Derived.Test.YtflklbnebljnmaaLift
import Derived.Test.YtflklbnebljnmaaChFilLaw
import Derived.Test.YtflklbnebljnmaaChOpen
namespace Go.Proofs.Ytflklbnebljnmaa
open Go.ChangeShapes Go.WideShapes Go.ChangeAt Go.RowKit

set_option maxRecDepth 100000 in
theorem chainFilters_lifted (os : Os) (started : os.Started) (H : Type) (enc : TypeId × Value → H) :
    ReturnsInHanded {} Try.checked os 4 .any (Rows.chainFiltersSpec.pre6 enc Try.prog Try.f4 Rows.chainFiltersRow.domain false) (Rows.chainFiltersSpec.post enc Try.prog Try.f4 false true false false) := by
  refine returnsInHanded_of_change (C := Try.checked) Try.own started (by kernel_rfl) Try.func4
    (ChangeSpec.witness6 (enc := enc) (C := Try.checked) false ⟨#[], #[.agg #[.int .i64 0, .int .u32 0], .int .i64 0, .slice none 0 0, .int .u32 0, .int .i64 0], []⟩ 8 (by kernel_rfl) (by kernel_rfl) (by kernel_rfl) (by kernel_rfl)) ?_
  intro W base args ds gs before hval0 hW _ _
  have hval : ∀ (j : Nat) t v, Try.f4.params[j]? = some t → args[j]? = some v → Value.okWide Try.prog W .any base t v := hval0
  have hW' := hW
  obtain ⟨p, q, hA0, hV, rfl, _, _⟩ := hW
  have hA : DataW.TrodAll enc Try.prog W 0 (fun _ => true) true Try.f4.params.toList args.toList ds p := hA0
  rw [Try.params4] at hA hval
  obtain ⟨v0, v1, v2, v3, v4, d0, d1, d2, d3, d4, p0, p1, p2, p3, p4, rfl, rfl, rfl, h0, h1, h2, h3, h4⟩ := trodAll_five hA
  obtain ⟨rfl, rfl⟩ := trodVars_none hV
  obtain ⟨f0, rfl, hf0⟩ := open_fil (hval 0 33 v0 rfl rfl) h0
  obtain ⟨a1, rfl, rfl, rfl, wa1⟩ := open_int Try.underlying3 (hval 1 3 v1 rfl rfl) h1
  have lo1 : -9223372036854775808 ≤ a1 ∧ a1 ≤ 9223372036854775807 := wf_bounds64 wa1
  obtain ⟨A2, l2, c2, rfl, hc2, hm2, hB2⟩ := open_bytes (hval 2 23 v2 rfl rfl) h2
  obtain ⟨a3, rfl, rfl, rfl, wa3⟩ := open_int Try.underlying31 (hval 3 31 v3 rfl rfl) h3
  have hb3 : (BitVec.ofNat 32 a3.toNat).toNat < 4294967296 := (BitVec.ofNat 32 a3.toNat).isLt
  have ha3 : a3 = ((BitVec.ofNat 32 a3.toNat).toNat : Int) := wf_bv32 wa3
  obtain ⟨a4, rfl, rfl, rfl, wa4⟩ := open_int Try.underlying3 (hval 4 3 v4 rfl rfl) h4
  have lo4 : -9223372036854775808 ≤ a4 ∧ a4 ≤ 9223372036854775807 := wf_bounds64 wa4
  have hlaw := filters_law f0 a1 A2 l2 c2 (BitVec.ofNat 32 a3.toNat).toNat a4 W hf0 lo1.1 lo1.2 hB2 hc2 hm2 hb3 lo4.1 lo4.2
  rw [← ha3] at hlaw
  refine hlaw.mono fun e W' ⟨he, hb⟩ => ?_
  subst he
  exact ⟨_, rfl, law_post rfl rfl hW' rfl rfl rfl (by rw [Try.params4]; intro t ht; simp at ht; rcases ht with rfl | rfl | rfl | rfl | rfl <;> exact ⟨by kernel_rfl, of_decide_eq_true (by kernel_rfl)⟩) hb⟩

theorem chainFilters_holds : Rows.ChainFiltersSaid :=
  OpenClaim.holds_of_wide 4 Try.f4 rfl rfl rfl rfl rfl rfl rfl ⟨rfl, rfl, rfl, rfl, rfl⟩ rfl rfl rfl rfl rfl (by kernel_rfl) Try.func4 (by kernel_rfl)
    (of_decide_eq_true (by kernel_rfl)) (by unfold Func.isWrapper; first | (rw [if_pos (by decide +kernel)]; kernel_rfl) | (rw [if_neg (by decide +kernel)]; exact ⟨rfl, rfl⟩))
    (fun os started H enc _ => chainFilters_lifted os started H enc)

#print axioms chainFilters_holds
end Go.Proofs.Ytflklbnebljnmaa
