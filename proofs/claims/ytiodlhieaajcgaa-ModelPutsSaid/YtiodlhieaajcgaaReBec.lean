/- The reference's Becomes keeps its chances and its range coder. -/
import Derived.Test.YtiodlhieaajcgaaReSym
import Derived.Test.YtiodlhieaajcgaaCoBecAll
namespace Go.Proofs.Ytiodlhieaajcgaa
open Go.RowKit

theorem RE.bec {C base h N : Nat} {lc lp pb st : Int} {r : R4} {x : (Nat → Nat) × Rc.St} {Y : List Nat} {w : World} (hM : RE w C base h N lc lp pb st r x Y) : ∃ (Pl : List Nat) (vR vP : Value), CodAt w C base lc lp pb st r Pl vR vP ∧ ∀ (st' : Int) (r' : R4) (e : Ending) (w' : World), BecDone2 C base lc lp pb st' r' Pl vR vP w e w' → RDone (.tuple #[]) C base h N lc lp pb st' r' x Y w e w' := by
  obtain ⟨Pl, vR, gR, gP, capP, o, cap, hC, hgR, hE, hPl, hP, rfl⟩ := hM.ex
  refine ⟨Pl, vR, _, hC, ?_⟩
  rintro st' r' e w' ⟨vR', rfl, hC', hg, hv⟩
  obtain ⟨cso, hro⟩ := hE.row
  have n2 : C ≠ h := row_ne hC.box hE.blk (by decide)
  have n3 : C ≠ o := row_ne hC.box hro (by decide)
  have bH := hg.block h (Array.getElem?_eq_some_iff.1 hE.blk).1 (by simpa using n2.symm)
  have bO := hg.block o (Array.getElem?_eq_some_iff.1 hro).1 (by simpa using n3.symm)
  obtain ⟨g', cap', e', _⟩ := hC'.reps.some_of_pos (show 0 < 4 by decide)
  have hg' : vR'.ownBlock = some g' := by rw [e']; rfl
  refine ⟨rfl, [C, g', gP, h, o], ⟨⟨Pl, vR', g', gP, capP, o, cap, hC', hg', hE.keep2 bH bO, hPl, hP, rfl⟩, hM.fair⟩, ?_, ?_⟩
  · exact ⟨hg.os, hg.tape, hg.output, hg.size, fun k hk hX => hg.block k hk (fun e => by injection e with e; subst e; exact hX (by simp))⟩
  · intro k hk
    simp only [List.mem_cons, List.not_mem_nil, or_false] at hk ⊢
    rcases hk with rfl | rfl | rfl | rfl | rfl
    · exact .inl (.inl rfl)
    · rcases hv with hv | hv
      · rw [hv, hgR] at hg'
        injection hg' with hg'
        exact .inl (.inr (.inl hg'.symm))
      · exact .inr (hv _ hg')
    · exact .inl (.inr (.inr (.inl rfl)))
    · exact .inl (.inr (.inr (.inr (.inl rfl))))
    · exact .inl (.inr (.inr (.inr (.inr rfl))))
end Go.Proofs.Ytiodlhieaajcgaa
