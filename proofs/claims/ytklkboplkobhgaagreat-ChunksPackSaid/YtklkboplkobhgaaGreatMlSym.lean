/- A symbol that fits: what the model codes, and the reference's Put. -/
import Derived.Test.YtklkboplkobhgaaGreatRePutAll
import Derived.Test.YtklkboplkobhgaaGreatMdPut
namespace Go.Proofs.YtklkboplkobhgaaGreat
set_option maxRecDepth 100000
open Go.RowKit

theorem lit_state (st : Nat) (l : Int) : ((litState st : Nat) : Int) = stateAfter (st : Nat) 0 l := by
  unfold litState stateAfter
  rw [if_pos (show (0 : Int) = 0 from rfl)]
  by_cases h1 : st < 4
  · rw [if_pos h1, if_pos (show ((st : Nat) : Int) < 4 by omega)]; rfl
  · rw [if_neg h1, if_neg (show ¬ ((st : Nat) : Int) < 4 by omega)]
    by_cases h2 : st < 10
    · rw [if_pos h2, if_pos (show ((st : Nat) : Int) < 10 by omega)]; omega
    · rw [if_neg h2, if_neg (show ¬ ((st : Nat) : Int) < 10 by omega)]; omega
theorem match_state (st : Nat) (l : Int) : (((if st < 7 then 7 else 10 : Nat)) : Int) = stateAfter (st : Nat) 1 l := by
  unfold stateAfter
  rw [if_neg (show ¬ (1 : Int) = 0 by decide), if_pos (show (1 : Int) = 1 from rfl)]
  by_cases h1 : st < 7
  · rw [if_pos h1, if_neg (show ¬ (7 : Int) ≤ ((st : Nat) : Int) by omega)]; rfl
  · rw [if_neg h1, if_pos (show (7 : Int) ≤ ((st : Nat) : Int) by omega)]; rfl
theorem rept_state (st l : Nat) : (((if st < 7 then (if l = 1 then 9 else 8) else 11 : Nat)) : Int) = stateAfter (st : Nat) 2 (l : Nat) := by
  unfold stateAfter
  rw [if_neg (show ¬ (2 : Int) = 0 by decide), if_neg (show ¬ (2 : Int) = 1 by decide)]
  by_cases h1 : st < 7
  · rw [if_pos h1, if_neg (show ¬ (7 : Int) ≤ ((st : Nat) : Int) by omega)]
    by_cases h : l = 1
    · rw [if_pos h, if_pos (show ((l : Nat) : Int) = 1 by omega)]; rfl
    · rw [if_neg h, if_neg (show ¬ ((l : Nat) : Int) = 1 by omega)]; rfl
  · rw [if_neg h1, if_pos (show (7 : Int) ≤ ((st : Nat) : Int) by omega)]; rfl
theorem rept_reps (r : R4) (q : Nat) (hq : q ≤ 3) (d : Int) : frontR r q (r4 r.1 r.2.1 r.2.2.1 r.2.2.2 q) = repsAfter r 2 d (q : Nat) := by
  obtain ⟨a, b, c, e⟩ := r
  have h : q = 0 ∨ q = 1 ∨ q = 2 ∨ q = 3 := by omega
  rcases h with rfl | rfl | rfl | rfl <;> rfl
/-- The reference's Put of this symbol, from any memory that holds it. -/
def RPut (g lc lp pb : Nat) (H : List UInt8) (x : (encIo g).S) (r : R4) (st : Nat) (k : Int) (b : UInt8) (l d q : Int) (st' : Nat) (r' : R4) (z : (encIo g).S) : Prop :=
  ∀ (C base h N : Nat) (Y : List Nat) (w : World) (m : Nat) (A : Option Addr) (c : Nat), RE w C base h N (lc : Nat) (lp : Nat) (pb : Nat) (st : Nat) r x Y → base ≤ w.heap.size → N = 2180 + 768 * 2 ^ (lc + lp) → N ≤ 1000000 → (encIo g).ok x.2 (m + 82) → Bytes w A H → (∀ a, A = some a → a.block ∉ Y) → H.length ≤ c →
    Calls Tryz.prog 32 #[PF C, PF h, .slice A H.length c, SyV k b l d q] w (MAnd ((encIo g).ok z.2 m) (RDone (.tuple #[]) C base h N (lc : Nat) (lp : Nat) (pb : Nat) (st' : Nat) r' z Y w))
theorem fits_sym {g lc lp pb st : Nat} {r : R4} {x : (encIo g).S} {H : List UInt8} {k : Int} {b : UInt8} {l d q : Int} (hlc : lc ≤ 4) (hlp : lp ≤ 4) (hpb : pb ≤ 4) (hst : st < 12) (hr : rGood r) (hH : H.length ≤ 1000000000) (hf : fitsZ r (H.length : Int) k l d q = true) :
    ∃ s' st' r' z, Md.sym (encIo g) lc lp pb st r H k b l d q x = (s', st', r', z) ∧ r' = repsAfter r k d q ∧ ((st' : Nat) : Int) = stateAfter (st : Nat) k l ∧ s'.val = plainZ k b l d q ∧ RPut g lc lp pb H x r st k b l d q st' r' z := by
  rcases fitsZ_cases hf with rfl | ⟨rfl, h2, h3, h4, h5, h6⟩ | ⟨rfl, h0, h1, h4, h5⟩
  · obtain ⟨z, hz, hzz⟩ := sym_lit_enc g lc lp pb st r H b l d q x
    refine ⟨_, _, _, _, hz, rfl, lit_state st l, rfl, ?_⟩
    intro C base h N Y w m A c hM hbase hN hN2 hok hB hA hc
    have hp := reput_lit hM hlc hlp hpb hst hr.1.1 hr.2.1 (k := m) ((encIo g).le hok (by omega)) A H c hB hA hc hH hN hN2 b l d q hzz.symm
    rw [← lit_state] at hp
    exact hp
  · obtain ⟨l, rfl⟩ : ∃ n : Nat, l = n := ⟨l.toNat, by omega⟩
    obtain ⟨d, rfl⟩ : ∃ n : Nat, d = n := ⟨d.toNat, by omega⟩
    obtain ⟨z, hz, hzz⟩ := sym_match_enc g lc lp pb st r H b l d q (by omega) (by omega) (by omega) (by omega) x
    refine ⟨_, _, _, _, hz, rfl, match_state st l, rfl, ?_⟩
    intro C base h N Y w m A c hM hbase hN hN2 hok hB hA hc
    have hp := reput_match hM hpb hst hbase (k := m) hok A H c hc hH (by omega) hN2 b l d q (by omega) (by omega) (by omega) (by omega) hzz.symm
    rw [← match_state] at hp
    exact hp
  · obtain ⟨l, rfl⟩ : ∃ n : Nat, l = n := ⟨l.toNat, by omega⟩
    obtain ⟨q, rfl⟩ : ∃ n : Nat, q = n := ⟨q.toNat, by omega⟩
    obtain ⟨z, hz, hzz⟩ := sym_rept_enc g lc lp pb st r H b l q d (by omega) (by omega) (by omega) (by omega) x
    refine ⟨_, _, _, _, hz, rept_reps r q (by omega) d, rept_state st l, rfl, ?_⟩
    intro C base h N Y w m A c hM hbase hN hN2 hok hB hA hc
    have hp := reput_rept hM hpb hst hbase (k := m) ((encIo g).le hok (by omega)) A H c hc hH (by omega) hN2 b l q d (by omega) (by omega) (by omega) (by omega) hzz.symm
    rw [← rept_state, ← rept_reps r q (by omega) d] at hp
    exact hp
end Go.Proofs.YtklkboplkobhgaaGreat
