/- UnmodelReads: for every input the law returns true, and its arguments read as before. -/
import Derived.Test.YtdkimllfpiphgaaLift
import Derived.Test.YtdkimllfpiphgaaMlBaseAll
import Derived.Test.YtdkimllfpiphgaaQrReadAll
namespace Go.Proofs.Ytdkimllfpiphgaa
open Go.ChangeShapes Go.WideShapes Go.ChangeAt Go.RowKit

set_option maxRecDepth 100000 in
theorem unmodelReads_lifted (os : Os) (started : os.Started) (H : Type) (enc : TypeId × Value → H) :
    ReturnsInHanded {} Try.checked os 3 .any (Rows.unmodelReadsSpec.pre6 enc Try.prog Try.f3 Rows.unmodelReadsRow.domain false) (Rows.unmodelReadsSpec.post enc Try.prog Try.f3 false true false false) := by
  refine returnsInHanded_of_change (C := Try.checked) Try.own started (by kernel_rfl) Try.func3
    (ChangeSpec.witness6 (enc := enc) (C := Try.checked) false ⟨#[], #[.int .i64 0, .int .i64 0, .int .i64 0, .slice none 0 0, .slice none 0 0, .int .i64 0, .int .i64 0], []⟩ 8 (by kernel_rfl) (by kernel_rfl) (by kernel_rfl) (by kernel_rfl)) ?_
  intro W base args ds gs before hval0 hW _ _
  have hval : ∀ (j : Nat) t v, Try.f3.params[j]? = some t → args[j]? = some v → Value.okWide Try.prog W .any base t v := hval0
  have hW' := hW
  obtain ⟨p, q, hA0, hV, rfl, _, _⟩ := hW
  have hA : DataW.TrodAll enc Try.prog W 0 (fun _ => true) true Try.f3.params.toList args.toList ds p := hA0
  rw [Try.params3] at hA hval
  obtain ⟨v0, v1, v2, v3, v4, v5, v6, d0, d1, d2, d3, d4, d5, d6, p0, p1, p2, p3, p4, p5, p6, rfl, rfl, rfl, h0, h1, h2, h3, h4, h5, h6⟩ := trodAll_seven hA
  obtain ⟨rfl, rfl⟩ := trodVars_none hV
  obtain ⟨a0, rfl, rfl, rfl, wa0⟩ := open_int Try.underlying3 (hval 0 3 v0 rfl rfl) h0
  have lo0 : -9223372036854775808 ≤ a0 ∧ a0 ≤ 9223372036854775807 := wf_bounds64 wa0
  obtain ⟨a1, rfl, rfl, rfl, wa1⟩ := open_int Try.underlying3 (hval 1 3 v1 rfl rfl) h1
  have lo1 : -9223372036854775808 ≤ a1 ∧ a1 ≤ 9223372036854775807 := wf_bounds64 wa1
  obtain ⟨a2, rfl, rfl, rfl, wa2⟩ := open_int Try.underlying3 (hval 2 3 v2 rfl rfl) h2
  have lo2 : -9223372036854775808 ≤ a2 ∧ a2 ≤ 9223372036854775807 := wf_bounds64 wa2
  obtain ⟨A3, l3, c3, rfl, hc3, hm3, hB3⟩ := open_bytesb (hval 3 22 v3 rfl rfl) h3
  obtain ⟨A4, l4, c4, rfl, hc4, hm4, hB4⟩ := open_bytesb (hval 4 22 v4 rfl rfl) h4
  obtain ⟨a5, rfl, rfl, rfl, wa5⟩ := open_int Try.underlying3 (hval 5 3 v5 rfl rfl) h5
  have lo5 : -9223372036854775808 ≤ a5 ∧ a5 ≤ 9223372036854775807 := wf_bounds64 wa5
  obtain ⟨a6, rfl, rfl, rfl, wa6⟩ := open_int Try.underlying3 (hval 6 3 v6 rfl rfl) h6
  have lo6 : -9223372036854775808 ≤ a6 ∧ a6 ≤ 9223372036854775807 := wf_bounds64 wa6
  have hlaw := reads_law a0 a1 a2 A3 l3 c3 A4 l4 c4 a5 a6 W lo0.1 lo0.2 lo1.1 lo1.2 lo2.1 lo2.2 hB3 hc3 hm3 hB4 hc4 hm4 lo5.1 lo5.2 lo6.1 lo6.2
  refine hlaw.mono fun e W' ⟨he, hb⟩ => ?_
  subst he
  exact ⟨_, rfl, law_post rfl rfl hW' rfl rfl rfl (by rw [Try.params3]; intro t ht; simp at ht; rcases ht with rfl | rfl | rfl | rfl | rfl | rfl | rfl <;> exact ⟨by kernel_rfl, of_decide_eq_true (by kernel_rfl)⟩) hb⟩

theorem unmodelReads_holds : Rows.UnmodelReadsSaid :=
  OpenClaim.holds_of_wide 3 Try.f3 rfl rfl rfl rfl rfl rfl rfl ⟨rfl, rfl, rfl, rfl, rfl⟩ rfl rfl rfl rfl rfl (by kernel_rfl) Try.func3 (by kernel_rfl)
    (of_decide_eq_true (by kernel_rfl)) (by unfold Func.isWrapper; first | (rw [if_pos (by decide +kernel)]; kernel_rfl) | (rw [if_neg (by decide +kernel)]; exact ⟨rfl, rfl⟩))
    (fun os started H enc _ => unmodelReads_lifted os started H enc)

#print axioms unmodelReads_holds
end Go.Proofs.Ytdkimllfpiphgaa
