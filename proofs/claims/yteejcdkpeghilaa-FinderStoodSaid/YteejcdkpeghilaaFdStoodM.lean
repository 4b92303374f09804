/- What is found stood there: the mathematics. -/
import Derived.Test.YteejcdkpeghilaaFdKnows
namespace Go.Proofs.Yteejcdkpeghilaa

structure StoodAt (d : List UInt8) (dict nice : Int) (p n k : Nat) : Prop where
  two : 2 ≤ n
  nice_ : (n : Int) ≤ nice
  one : 1 ≤ k
  back : k ≤ p
  dict_ : (k : Int) ≤ dict
  fits : p + n ≤ d.length
  same : ∀ i, i < n → d.getD (p + i) 0 = d.getD (p + i - k) 0
  stop : (n : Int) < nice → p + n < d.length → d.getD (p + n) 0 ≠ d.getD (p + n - k) 0
  less : ∀ j, 1 ≤ j → j < k → backOf d dict (p : Int) (j : Int) (n : Int) < n
theorem stood_of {d : List UInt8} {dict nice : Int} {p : Nat} (hn : nice ≤ 273) :
    bestOf d dict nice p (d.length : Int) = (0, 0) ∨ ∃ n k, bestOf d dict nice p (d.length : Int) = (n, k) ∧ StoodAt d dict nice p n k := by
  unfold bestOf
  obtain ⟨L, hL⟩ : ∃ L, lim d p (min nice (d.length : Int)) = L := ⟨_, rfl⟩
  rw [hL]
  have hB := bestTo_is (fun k => eqLen d p (p - k) L) (min (p : Int) dict).toNat
  obtain ⟨⟨n, k⟩, hr⟩ : ∃ r, bestTo (fun k => eqLen d p (p - k) L) (min (p : Int) dict).toNat = r := ⟨_, rfl⟩
  rw [hr] at hB ⊢
  by_cases h2 : n < 2
  · left
    rw [if_pos h2]
  · right
    rw [if_neg h2]
    refine ⟨n, k, rfl, ?_⟩
    rcases hB.at_ with ⟨e, _⟩ | ⟨h1, h3, h4, h5⟩
    · simp only at e; omega
    · simp only at h1 h3 h4 h5
      have hlen := isLen_eqLen d L p (p - k)
      rw [h4] at hlen
      have hnL := hlen.le
      have hLv : L = (min (min nice (d.length : Int)) ((d.length : Int) - (p : Int))).toNat := by rw [← hL]; rfl
      refine ⟨by omega, by omega, h1, by omega, by omega, by omega, fun i hi => ?_, fun a b => ?_, fun j h6 h7 => ?_⟩
      · rw [hlen.eq i hi]; congr 1; omega
      · rcases hlen.stop with e | e
        · omega
        · rw [show p + n - k = p - k + n by omega]; exact e
      · have hlt := hB.lt j h6 h7
        simp only at hlt
        unfold backOf
        split
        · rename_i hc
          simp only [Int.toNat_natCast]
          have hle : lim d p (min 273 (n : Int)) ≤ L := by
            unfold lim; omega
          rw [eqLen_limit hle]
          omega
        · omega
end Go.Proofs.Yteejcdkpeghilaa
