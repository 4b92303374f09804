/- UnchunkBack: for every input the law returns true, and its arguments read as before. -/
import Derived.Test.YtkckjjchfccdjaaMg1
import Derived.Test.YtkckjjchfccdjaaMg12
import Derived.Test.YtkckjjchfccdjaaMg33
namespace Go.Proofs.Ytkckjjchfccdjaa
set_option maxRecDepth 100000
open Go.ChangeShapes Go.WideShapes Go.ChangeAt Go.RowKit

set_option maxRecDepth 100000 in
theorem unchunkBack_lifted (os : Os) (started : os.Started) (H : Type) (enc : TypeId × Value → H) :
    ReturnsInHanded {} Try.checked os 4 .any (Rows.unchunkBackSpec.pre6 enc Try.prog Try.f4 Rows.unchunkBackRow.domain false) (Rows.unchunkBackSpec.post enc Try.prog Try.f4 false true false false) := by
  refine returnsInHanded_of_change (C := Try.checked) Try.own started (by kernel_rfl) Try.func4
    (ChangeSpec.witness6 (enc := enc) (C := Try.checked) false ⟨#[], #[.slice none 0 0, .agg #[.int .i64 0, .int .i64 0, .int .i64 0, .int .i64 0, .int .i64 0, .int .i64 0, .int .i64 0, .slice none 0 0, .int .u32 0], .slice none 0 0, .int .u16 0], []⟩ 8 (by kernel_rfl) (by kernel_rfl) (by kernel_rfl) (by kernel_rfl)) ?_
  intro W base args ds gs before hval0 hW _ _
  have hval : ∀ (j : Nat) t v, Try.f4.params[j]? = some t → args[j]? = some v → Value.okWide Try.prog W .any base t v := hval0
  have hW' := hW
  obtain ⟨p, q, hA0, hV, rfl, _, _⟩ := hW
  have hA : DataW.TrodAll enc Try.prog W 0 (fun _ => true) true Try.f4.params.toList args.toList ds p := hA0
  rw [Try.params4] at hA hval
  obtain ⟨v0, v1, v2, v3, d0, d1, d2, d3, p0, p1, p2, p3, rfl, rfl, rfl, h0, h1, h2, h3⟩ := trodAll_four hA
  obtain ⟨rfl, rfl⟩ := trodVars_none hV
  obtain ⟨A0, l0, c0, rfl, hc0, hm0, hB0⟩ := open_bytesb (hval 0 22 v0 rfl rfl) h0
  obtain ⟨lc1, lp1, pb1, ni1, ch1, bl1, ck1, cn1, di1, rfl, hO1⟩ := open_opts (hval 1 33 v1 rfl rfl) h1
  obtain ⟨A2, l2, c2, rfl, hc2, hm2, hB2⟩ := open_bytesb (hval 2 22 v2 rfl rfl) h2
  obtain ⟨a3, rfl, rfl, rfl, wa3⟩ := open_int Try.underlying34 (hval 3 34 v3 rfl rfl) h3
  have hb3 : (BitVec.ofNat 16 a3.toNat).toNat < 65536 := (BitVec.ofNat 16 a3.toNat).isLt
  have ha3 : a3 = ((BitVec.ofNat 16 a3.toNat).toNat : Int) := wf_bv16 wa3
  have hlaw := ucback_law A0 l0 c0 lc1 lp1 pb1 ni1 ch1 bl1 ck1 cn1 di1 A2 l2 c2 (BitVec.ofNat 16 a3.toNat).toNat W hB0 hc0 hm0 hO1 hB2 hc2 hm2 hb3
  rw [← ha3] at hlaw
  refine hlaw.mono fun e W' ⟨he, hb⟩ => ?_
  subst he
  exact ⟨_, rfl, law_post rfl rfl hW' rfl rfl rfl (by rw [Try.params4]; intro t ht; simp at ht; rcases ht with rfl | rfl | rfl | rfl <;> exact ⟨by kernel_rfl, of_decide_eq_true (by kernel_rfl)⟩) hb⟩

theorem unchunkBack_holds : Rows.UnchunkBackSaid :=
  OpenClaim.holds_of_wide 4 Try.f4 rfl rfl rfl rfl rfl rfl rfl ⟨rfl, rfl, rfl, rfl, rfl⟩ rfl rfl rfl rfl rfl (by kernel_rfl) Try.func4 (by kernel_rfl)
    (of_decide_eq_true (by kernel_rfl)) (by unfold Func.isWrapper; first | (rw [if_pos (by decide +kernel)]; kernel_rfl) | (rw [if_neg (by decide +kernel)]; exact ⟨rfl, rfl⟩))
    (fun os started H enc _ => unchunkBack_lifted os started H enc)

#print axioms unchunkBack_holds
end Go.Proofs.Ytkckjjchfccdjaa
