/- The reference's Back; cuts of data. -/
import Derived.Test.YteejcdkpeghilaaFdMem
namespace Go.Proofs.Yteejcdkpeghilaa
open Go.RowKit

set_option maxRecDepth 100000 in
set_option maxHeartbeats 1500000 in
theorem rback_any (A : Option Addr) (l : List UInt8) (c : Nat) (dict place dist most : Int) (w : World) (hB : Bytes w A l) (hc : l.length ≤ c) (hl : l.length ≤ 100000) :
    Calls Try.prog 10 #[.slice A l.length c, .int .i64 dict, .int .i64 place, .int .i64 dist, .int .i64 most] w fun e w' => e = .returned (.int .i64 (backOf l dict place dist most : Nat)) ∧ ∃ m, w' = w.drewN m := by
  have hci : (l.length : Int) ≤ (c : Int) := by omega
  have HCU := Lib.hid (cut_any 273 most)
  unfold backOf
  by_cases h1 : place < 0
  · rw [if_neg (fun h => by omega)]
    clear hB hc hl
    go_enter Try.func10, Try.ntmps10
    go_wp2_with fail
    go_ret
    exact ⟨rfl, 0, rfl⟩
  have b1 : decide (place < 0) = false := decide_eq_false h1
  by_cases h2 : (l.length : Int) ≤ place
  · rw [if_neg (fun h => by omega)]
    clear hB hc hl h1
    go_enter Try.func10, Try.ntmps10
    go_wp2_with fail
    go_ret
    exact ⟨rfl, 0, rfl⟩
  have b2 : decide ((l.length : Int) ≤ place) = false := decide_eq_false h2
  by_cases h3 : dist < 1
  · rw [if_neg (fun h => by omega)]
    clear hB hc hl h1 h2
    go_enter Try.func10, Try.ntmps10
    go_wp2_with fail
    go_ret
    exact ⟨rfl, 0, rfl⟩
  have b3 : decide (dist < 1) = false := decide_eq_false h3
  by_cases h4 : place < dist
  · rw [if_neg (fun h => by omega)]
    clear hB hc hl h1 h2 h3
    go_enter Try.func10, Try.ntmps10
    go_wp2_with fail
    go_ret
    exact ⟨rfl, 0, rfl⟩
  have b4 : decide (place < dist) = false := decide_eq_false h4
  by_cases h5 : dict < dist
  · rw [if_neg (fun h => by omega)]
    clear hB hc hl h1 h2 h3 h4
    go_enter Try.func10, Try.ntmps10
    go_wp2_with fail
    go_ret
    exact ⟨rfl, 0, rfl⟩
  have b5 : decide (dict < dist) = false := decide_eq_false h5
  rw [if_pos (by omega)]
  have hp : (place.toNat : Int) = place := by omega
  have hk : (dist.toNat : Int) = dist := by omega
  have HLK := rlike_any A l c place.toNat dist.toNat (min 273 most) w hB hc hl (by omega) (by omega) (by omega)
  rw [hp, hk] at HLK
  have HLK := Lib.hid HLK
  generalize eqLen l place.toNat (place.toNat - dist.toNat) (lim l place.toNat (min 273 most)) = E at *
  clear hp hk
  clear hB hc hl h1 h2 h3 h4 h5
  go_enter Try.func10, Try.ntmps10
  go_wp2_with fail
  refine (HCU.out _).mono ?_
  rintro e w1 ⟨rfl, rfl⟩
  go_wp2_with fail
  refine HLK.out.mono ?_
  rintro e w1 ⟨rfl, m, rfl⟩
  go_wp2_with fail
  go_ret
  exact ⟨rfl, _, rfl⟩
/-- The best of all distances, told without an order: the greatest length, the least distance that has it. -/
structure BestIs (f : Nat → Nat) (D n k : Nat) : Prop where
  le : ∀ j, 1 ≤ j → j ≤ D → f j ≤ n
  lt : ∀ j, 1 ≤ j → j < k → f j < n
  at_ : (n = 0 ∧ k = 0) ∨ (1 ≤ k ∧ k ≤ D ∧ f k = n ∧ 0 < n)
theorem bestTo_is (f : Nat → Nat) : ∀ D, BestIs f D (bestTo f D).1 (bestTo f D).2
  | 0 => ⟨fun j h1 h2 => by omega, fun j h1 h2 => by simp [bestTo] at h2, .inl ⟨rfl, rfl⟩⟩
  | D + 1 => by
    have ih := bestTo_is f D
    unfold bestTo
    by_cases h : (bestTo f D).1 < f (D + 1)
    · rw [if_pos h]
      refine ⟨fun j h1 h2 => ?_, fun j h1 h2 => ?_, .inr ⟨by simp, by simp, rfl, by show 0 < f (D + 1); omega⟩⟩
      · show f j ≤ f (D + 1)
        rcases Nat.lt_or_ge j (D + 1) with h3 | h3
        · have := ih.le j h1 (by omega); omega
        · obtain rfl : j = D + 1 := by omega
          exact Nat.le_refl _
      · have h2 : j < D + 1 := h2
        show f j < f (D + 1)
        have := ih.le j h1 (by omega); omega
    · rw [if_neg h]
      refine ⟨fun j h1 h2 => ?_, ih.lt, ?_⟩
      · rcases Nat.lt_or_ge j (D + 1) with h3 | h3
        · exact ih.le j h1 (by omega)
        · obtain rfl : j = D + 1 := by omega
          omega
      · rcases ih.at_ with e | ⟨e1, e2, e3⟩
        · exact .inl e
        · exact .inr ⟨e1, by omega, e3⟩
theorem BestIs.unique {f : Nat → Nat} {D n k n' k' : Nat} (h : BestIs f D n k) (h' : BestIs f D n' k') : n = n' ∧ k = k' := by
  have hn : n = n' := by
    rcases h.at_ with ⟨e1, e2⟩ | ⟨e1, e2, e3, e4⟩
    · rcases h'.at_ with ⟨e1', _⟩ | ⟨a1, a2, a3, a4⟩
      · omega
      · have := h.le k' a1 a2; omega
    · rcases h'.at_ with ⟨a1, _⟩ | ⟨a1, a2, a3, a4⟩
      · have := h'.le k e1 e2; omega
      · have b1 := h.le k' a1 a2
        have b2 := h'.le k e1 e2
        omega
  refine ⟨hn, ?_⟩
  subst hn
  rcases h.at_ with ⟨e1, e2⟩ | ⟨e1, e2, e3, e4⟩
  · rcases h'.at_ with ⟨_, a2⟩ | ⟨a1, a2, a3, a4⟩
    · omega
    · omega
  · rcases h'.at_ with ⟨a1, _⟩ | ⟨a1, a2, a3, a4⟩
    · omega
    · rcases Nat.lt_trichotomy k k' with hlt | e | hlt
      · have := h'.lt k e1 hlt; omega
      · exact e
      · have := h.lt k' a1 hlt; omega
end Go.Proofs.Yteejcdkpeghilaa
