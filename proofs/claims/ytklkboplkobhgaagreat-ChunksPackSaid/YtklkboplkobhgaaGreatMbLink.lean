/- A symbol that fits takes the coder from one place to the next. -/
import Derived.Test.YtklkboplkobhgaaGreatMlSym
import Derived.Test.YtklkboplkobhgaaGreatChkG
import Derived.Test.YtklkboplkobhgaaGreatCoAll
namespace Go.Proofs.YtklkboplkobhgaaGreat
set_option maxRecDepth 100000
open Go.RowKit

/-- Where a coder stands. -/
structure MSt where
  H : List UInt8
  st : Nat
  r : R4
  x : EncS
/-- A symbol takes the coder from one place to the next. -/
structure Link (g lc lp pb : Nat) (a : MSt) (s : Sy) (b : MSt) : Prop where
  sym : ∃ (k : Int) (c : UInt8) (l d q : Int), Md.sym (encIo g) lc lp pb a.st a.r a.H k c l d q a.x = (s, b.st, b.r, b.x)
  k : s.k ≤ 2
  q : s.r ≤ 3
  short : s.l ≤ 273
  pos : s.k ≠ 0 → 1 ≤ s.l
  hist : ∃ bk : Nat, distZ a.r (s.k : Nat) (s.d : Nat) (s.r : Nat) = (bk : Int) ∧ (((s.k : Nat) : Int) ≠ 0 → 1 ≤ bk ∧ bk ≤ a.H.length) ∧ b.H = growS a.H (s.k : Nat) s.b s.l bk
  st : ((b.st : Nat) : Int) = stateAfter (a.st : Nat) (s.k : Nat) (s.l : Nat)
  r : b.r = repsAfter a.r (s.k : Nat) (s.d : Nat) (s.r : Nat)
  ok : b.x.2.ok
theorem growS_zero (H : List UInt8) (b : UInt8) (l l' back back' : Nat) : growS H 0 b l back = growS H 0 b l' back' := by
  unfold growS
  rw [if_pos rfl, if_pos rfl]
theorem growS_ne {k : Int} (hk : k ≠ 0) (H : List UInt8) (b b' : UInt8) (l back : Nat) : growS H k b l back = growS H k b' l back := by
  unfold growS
  rw [if_neg hk, if_neg hk]
theorem fits_link {g lc lp pb : Nat} {a : MSt} {k : Int} {b : UInt8} {l d q : Int} (hr : rGood a.r) (hf : fitsZ a.r (a.H.length : Int) k l d q = true) :
    ∃ s st' r' z, Md.sym (encIo g) lc lp pb a.st a.r a.H k b l d q a.x = (s, st', r', z) ∧ r' = repsAfter a.r k d q ∧ ((st' : Nat) : Int) = stateAfter (a.st : Nat) k l ∧ s.val = plainZ k b l d q ∧ ∀ bk : Nat, distZ a.r k d q = (bk : Int) → z.2.ok → Link g lc lp pb a s ⟨growS a.H k b l.toNat bk, st', r', z⟩ := by
  have hr1 : ∀ q : Nat, q ≤ 3 → 1 ≤ rAt a.r (q : Nat) := by
    intro q hq
    obtain ⟨⟨a1, a2, a3, a4⟩, _⟩ := hr
    unfold rAt
    rcases (by omega : q = 0 ∨ q = 1 ∨ q = 2 ∨ q = 3) with rfl | rfl | rfl | rfl
    · exact a1
    · exact a2
    · exact a3
    · exact a4
  rcases fitsZ_cases hf with rfl | ⟨rfl, h2, h3, h4, h5, h6⟩ | ⟨rfl, h0, h1, h4, h5⟩
  · obtain ⟨z, hz, _⟩ := sym_lit_enc g lc lp pb a.st a.r a.H b l d q a.x
    refine ⟨_, _, _, _, hz, rfl, lit_state a.st l, rfl, fun bk hbk hok => ?_⟩
    exact ⟨⟨0, b, l, d, q, hz⟩, show 0 ≤ 2 by decide, show 0 ≤ 3 by decide, show 0 ≤ 273 by decide, fun h => absurd rfl h, ⟨0, rfl, fun h => absurd rfl h, growS_zero a.H b l.toNat 0 bk 0⟩, lit_state a.st _, rfl, hok⟩
  · obtain ⟨l, rfl⟩ : ∃ n : Nat, l = n := ⟨l.toNat, by omega⟩
    obtain ⟨d, rfl⟩ : ∃ n : Nat, d = n := ⟨d.toNat, by omega⟩
    obtain ⟨z, hz, _⟩ := sym_match_enc g lc lp pb a.st a.r a.H b l d q (by omega) (by omega) (by omega) (by omega) a.x
    refine ⟨_, _, _, _, hz, rfl, match_state a.st l, rfl, fun bk hbk hok => ?_⟩
    have hd : distZ a.r 1 (d : Nat) q = (d : Int) := by unfold distZ; rw [if_pos rfl]
    rw [hd] at hbk
    refine ⟨⟨1, b, l, d, q, hz⟩, show 1 ≤ 2 by decide, show 0 ≤ 3 by decide, by show l ≤ 273; omega, fun _ => by show 1 ≤ l; omega, ⟨bk, ?_, fun _ => by show 1 ≤ bk ∧ bk ≤ a.H.length; omega, growS_ne (show (1 : Int) ≠ 0 by decide) a.H b 0 l bk⟩, match_state a.st _, rfl, hok⟩
    show distZ a.r 1 (d : Nat) 0 = (bk : Int)
    unfold distZ
    rw [if_pos rfl]; exact hbk
  · obtain ⟨l, rfl⟩ : ∃ n : Nat, l = n := ⟨l.toNat, by omega⟩
    obtain ⟨q, rfl⟩ : ∃ n : Nat, q = n := ⟨q.toNat, by omega⟩
    obtain ⟨z, hz, _⟩ := sym_rept_enc g lc lp pb a.st a.r a.H b l q d (by omega) (by omega) (by omega) (by omega) a.x
    refine ⟨_, _, _, _, hz, rept_reps a.r q (by omega) d, rept_state a.st l, rfl, fun bk hbk hok => ?_⟩
    have hd : distZ a.r 2 d (q : Nat) = rAt a.r (q : Nat) := by unfold distZ; rw [if_neg (by decide), if_pos rfl]
    rw [hd] at hbk
    have h1' := hr1 q (by omega)
    refine ⟨⟨2, b, l, d, q, hz⟩, show 2 ≤ 2 by decide, by show q ≤ 3; omega, by show l ≤ 273; omega, fun _ => by show 1 ≤ l; omega, ⟨bk, ?_, fun _ => by show 1 ≤ bk ∧ bk ≤ a.H.length; omega, growS_ne (show (2 : Int) ≠ 0 by decide) a.H b 0 l bk⟩, rept_state a.st l, rept_reps a.r q (by omega) _, hok⟩
    show distZ a.r 2 0 (q : Nat) = (bk : Int)
    unfold distZ
    rw [if_neg (by decide), if_pos rfl]; exact hbk
end Go.Proofs.YtklkboplkobhgaaGreat
