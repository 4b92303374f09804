/- Several texts in one: ReSym, ReBec. -/
import Derived.Test.YtiodlhieaajcgaaReLit
import Derived.Test.YtiodlhieaajcgaaReDist
import Derived.Test.YtiodlhieaajcgaaReLen
import Derived.Test.YtiodlhieaajcgaaMdSym
import Derived.Test.YtiodlhieaajcgaaCoBecAll
/- A symbol that is coded comes back as it was asked. -/
namespace Go.Proofs.Ytiodlhieaajcgaa
open Go.RowKit

theorem which_enc (g st q : Nat) (hq : q ≤ 3) (x : (encIo g).S) : (Md.which (encIo g) st (q : Nat) x).1 = q := by
  have b0 : ∀ i b y, ((encIo g).bitAt i b y).1 = b := fun _ _ _ => rfl
  unfold Md.which
  simp only [b0]
  have h : q = 0 ∨ q = 1 ∨ q = 2 ∨ q = 3 := by omega
  rcases h with rfl | rfl | rfl | rfl <;> rfl
theorem rept_enc (g st p q l : Nat) (hq : q ≤ 3) (h1 : 1 ≤ l) (h2 : q ≠ 0 → 2 ≤ l) (h3 : l ≤ 273) (x : (encIo g).S) : (Md.rept (encIo g) st p (l : Nat) (q : Nat) x).1 = (q, l) := by
  have b0 : ∀ i b y, ((encIo g).bitAt i b y).1 = b := fun _ _ _ => rfl
  unfold Md.rept
  simp only [which_enc g st q hq, b0]
  by_cases h0 : q = 0
  · rw [if_pos h0]
    by_cases hl : l = 1
    · subst hl
      simp [h0]
    · have hb : ((l : Int) != 1) = true := by
        simp only [bne_iff_ne, ne_eq]
        omega
      rw [if_neg (by rw [hb]; decide)]
      simp only [len_enc g 946 p l (by omega) h3]
      rw [h0]
  · rw [if_neg h0]
    simp only [len_enc g 946 p l (h2 h0) h3]
theorem sym_lit_enc (g lc lp pb st : Nat) (r : R4) (H : List UInt8) (b : UInt8) (l d q : Int) (x : (encIo g).S) : ∃ z, Md.sym (encIo g) lc lp pb st r H 0 b l d q x = (⟨0, b, 0, 0, 0⟩, litState st, r, z) ∧ z = (Md.lit (encIo g) lc lp st r.1 H (b.toNat : Nat) ((encIo g).bitAt (16 * st + H.length % 2 ^ pb) false x).2).2 := by
  refine ⟨_, ?_, rfl⟩
  have b0 : ∀ i b y, ((encIo g).bitAt i b y).1 = b := fun _ _ _ => rfl
  unfold Md.sym
  simp only [b0, show ((0 : Int) != 0) = false from rfl, if_true]
  rw [lit_enc]
theorem sym_match_enc (g lc lp pb st : Nat) (r : R4) (H : List UInt8) (b : UInt8) (l d : Nat) (q : Int) (h2 : 2 ≤ l) (h3 : l ≤ 273) (h4 : 1 ≤ d) (h5 : d ≤ 4294967295) (x : (encIo g).S) : ∃ z, Md.sym (encIo g) lc lp pb st r H 1 b (l : Nat) (d : Nat) q x = (⟨1, 0, l, d, 0⟩, (if st < 7 then 7 else 10), frontR r 3 (d : Nat), z) ∧ z = (Md.dist (encIo g) l (d : Nat) (Md.len (encIo g) 432 (H.length % 2 ^ pb) (l : Nat) ((encIo g).bitAt (192 + st) false ((encIo g).bitAt (16 * st + H.length % 2 ^ pb) true x).2).2).2).2 := by
  refine ⟨_, ?_, rfl⟩
  have b0 : ∀ i b y, ((encIo g).bitAt i b y).1 = b := fun _ _ _ => rfl
  unfold Md.sym
  simp only [b0, show ((1 : Int) != 0) = true from rfl, show ((1 : Int) != 1) = false from rfl, Bool.true_eq_false, if_false, if_true]
  simp only [len_enc g 432 _ l h2 h3, dist_enc g l d h4 h5]
theorem sym_rept_enc (g lc lp pb st : Nat) (r : R4) (H : List UInt8) (b : UInt8) (l q : Nat) (d : Int) (hq : q ≤ 3) (h1 : 1 ≤ l) (h2 : q ≠ 0 → 2 ≤ l) (h3 : l ≤ 273) (x : (encIo g).S) : ∃ z, Md.sym (encIo g) lc lp pb st r H 2 b (l : Nat) d (q : Nat) x = (⟨2, 0, l, 0, q⟩, (if st < 7 then (if l = 1 then 9 else 8) else 11), frontR r q (r4 r.1 r.2.1 r.2.2.1 r.2.2.2 q), z) ∧ z = (Md.rept (encIo g) st (H.length % 2 ^ pb) (l : Nat) (q : Nat) ((encIo g).bitAt (192 + st) true ((encIo g).bitAt (16 * st + H.length % 2 ^ pb) true x).2).2).2 := by
  refine ⟨_, ?_, rfl⟩
  have b0 : ∀ i b y, ((encIo g).bitAt i b y).1 = b := fun _ _ _ => rfl
  unfold Md.sym
  simp only [b0, show ((2 : Int) != 0) = true from rfl, show ((2 : Int) != 1) = true from rfl, Bool.true_eq_false, if_false]
  simp only [rept_enc g st _ q l hq h1 h2 h3]
end Go.Proofs.Ytiodlhieaajcgaa

/- The reference's Becomes keeps its chances and its range coder. -/
namespace Go.Proofs.Ytiodlhieaajcgaa
open Go.RowKit

theorem RE.bec {C base h N : Nat} {lc lp pb st : Int} {r : R4} {x : (Nat → Nat) × Rc.St} {Y : List Nat} {w : World} (hM : RE w C base h N lc lp pb st r x Y) : ∃ (Pl : List Nat) (vR vP : Value), CodAt w C base lc lp pb st r Pl vR vP ∧ ∀ (st' : Int) (r' : R4) (e : Ending) (w' : World), BecDone2 C base lc lp pb st' r' Pl vR vP w e w' → RDone (.tuple #[]) C base h N lc lp pb st' r' x Y w e w' := by
  obtain ⟨Pl, vR, gR, gP, capP, o, cap, hC, hgR, hE, hPl, hP, rfl⟩ := hM.ex
  refine ⟨Pl, vR, _, hC, ?_⟩
  rintro st' r' e w' ⟨vR', rfl, hC', hg, hv⟩
  obtain ⟨cso, hro⟩ := hE.row
  have n2 : C ≠ h := row_ne hC.box hE.blk (by decide)
  have n3 : C ≠ o := row_ne hC.box hro (by decide)
  have bH := hg.block h (Array.getElem?_eq_some_iff.1 hE.blk).1 (by simpa using n2.symm)
  have bO := hg.block o (Array.getElem?_eq_some_iff.1 hro).1 (by simpa using n3.symm)
  obtain ⟨g', cap', e', _⟩ := hC'.reps.some_of_pos (show 0 < 4 by decide)
  have hg' : vR'.ownBlock = some g' := by rw [e']; rfl
  refine ⟨rfl, [C, g', gP, h, o], ⟨⟨Pl, vR', g', gP, capP, o, cap, hC', hg', hE.keep2 bH bO, hPl, hP, rfl⟩, hM.fair⟩, ?_, ?_⟩
  · exact ⟨hg.os, hg.tape, hg.output, hg.size, fun k hk hX => hg.block k hk (fun e => by injection e with e; subst e; exact hX (by simp))⟩
  · intro k hk
    simp only [List.mem_cons, List.not_mem_nil, or_false] at hk ⊢
    rcases hk with rfl | rfl | rfl | rfl | rfl
    · exact .inl (.inl rfl)
    · rcases hv with hv | hv
      · rw [hv, hgR] at hg'
        injection hg' with hg'
        exact .inl (.inr (.inl hg'.symm))
      · exact .inr (hv _ hg')
    · exact .inl (.inr (.inr (.inl rfl)))
    · exact .inl (.inr (.inr (.inr (.inl rfl))))
    · exact .inl (.inr (.inr (.inr (.inr rfl))))
end Go.Proofs.Ytiodlhieaajcgaa
