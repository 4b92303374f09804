/- The reference's roots (mathematics). -/
import Derived.Test.YtibkhajhmncgkaaDoorShaRound
import Derived.Test.YtibkhajhmncgkaaDoorVals
namespace Go.Proofs.YtibkhajhmncgkaaDoor
open Go.RowKit

def mulHi (a b : Int) : Int := a * b / 18446744073709551616
def mulLo (a b : Int) : Int := a * b % 18446744073709551616
theorem mulHi_bd (a b : Int) (ha : 0 ≤ a) (hb : 0 ≤ b) (hb2 : b < 18446744073709551616) : 0 ≤ mulHi a b ∧ mulHi a b ≤ a := by
  unfold mulHi
  have h0 : 0 ≤ a * b := Int.mul_nonneg ha hb
  have h1 : a * b ≤ a * 18446744073709551616 := Int.mul_le_mul_of_nonneg_left (by omega) ha
  exact ⟨Int.ediv_nonneg h0 (by omega), by omega⟩
theorem mulLo_bd (a b : Int) : 0 ≤ mulLo a b ∧ mulLo a b < 18446744073709551616 := by unfold mulLo; omega
def sq (n : Int) : Nat → Int
  | 0 => 0
  | k + 1 => if mulHi (sq n k + 2 ^ (36 - k)) (sq n k + 2 ^ (36 - k)) < n then sq n k + 2 ^ (36 - k) else sq n k
def cbSum (y : Int) : Int := (mulLo (mulHi y y) y + mulHi (mulLo y y) y) % 18446744073709551616
def cbHigh (y : Int) : Int := if cbSum y < mulLo (mulHi y y) y then mulHi (mulHi y y) y + 1 else mulHi (mulHi y y) y
def cb (n : Int) : Nat → Int
  | 0 => 0
  | k + 1 => if cbHigh (cb n k + 2 ^ (35 - k)) = 0 ∧ cbSum (cb n k + 2 ^ (35 - k)) / 4294967296 < n then cb n k + 2 ^ (35 - k) else cb n k
theorem pow_half (m k : Nat) (h : k < m) : (2 : Int) ^ (m - k) = 2 * 2 ^ (m - (k + 1)) := by
  obtain ⟨d, rfl⟩ : ∃ d, m = k + 1 + d := ⟨m - (k + 1), by omega⟩
  rw [show k + 1 + d - k = d + 1 by omega, show k + 1 + d - (k + 1) = d by omega, Int.pow_succ, Int.mul_comm]
theorem pow_pos (m : Nat) : (0 : Int) < 2 ^ m := Int.pow_pos (by decide)
theorem sq_bd (n : Int) : ∀ k, k ≤ 37 → 0 ≤ sq n k ∧ sq n k + 2 ^ (37 - k) ≤ 2 ^ 37
  | 0, _ => by simp [sq]
  | k + 1, hk => by
    obtain ⟨h0, h1⟩ := sq_bd n k (by omega)
    rw [pow_half 37 k (by omega)] at h1
    have hp := pow_pos (37 - (k + 1))
    have e : (36 - k : Nat) = 37 - (k + 1) := by omega
    simp only [sq, e]
    generalize (2 : Int) ^ (37 - (k + 1)) = B at *
    split <;> constructor <;> omega
theorem cb_bd (n : Int) : ∀ k, k ≤ 36 → 0 ≤ cb n k ∧ cb n k + 2 ^ (36 - k) ≤ 2 ^ 36
  | 0, _ => by simp [cb]
  | k + 1, hk => by
    obtain ⟨h0, h1⟩ := cb_bd n k (by omega)
    rw [pow_half 36 k (by omega)] at h1
    have hp := pow_pos (36 - (k + 1))
    have e : (35 - k : Nat) = 36 - (k + 1) := by omega
    simp only [cb, e]
    generalize (2 : Int) ^ (36 - (k + 1)) = B at *
    split <;> constructor <;> omega
/-- The bit behind k halvings. -/
def bitAt (m k : Nat) : Int := if k ≤ m then 2 ^ (m - k) else 0
theorem bitAt_half (m k : Nat) (h : k ≤ m) : bitAt m k / 2 = bitAt m (k + 1) := by
  unfold bitAt
  rw [if_pos h]
  by_cases h2 : k + 1 ≤ m
  · rw [if_pos h2, pow_half m k (by omega)]; omega
  · have : m - k = 0 := by omega
    rw [if_neg h2, this]; rfl

/-- The primes by trial. -/
def pstep (l : List Nat) (n : Nat) : List Nat := if l.all (fun p => n % p != 0) then l ++ [n] else l
def plist : Nat → List Nat
  | 0 => []
  | k + 1 => pstep (plist k) (k + 2)
theorem plist_mono (k : Nat) : (plist k).length ≤ (plist (k + 1)).length := by
  simp only [plist, pstep]; split <;> simp
theorem plist_le {k m : Nat} (h : k ≤ m) : (plist k).length ≤ (plist m).length := by
  induction h with
  | refl => exact Nat.le_refl _
  | step _ ih => exact Nat.le_trans ih (plist_mono _)
theorem plist_pos : ∀ k, ∀ p ∈ plist k, 2 ≤ p ∧ p ≤ k + 1
  | 0, p, h => by simp [plist] at h
  | k + 1, p, h => by
    simp only [plist, pstep] at h
    split at h
    · rw [List.mem_append] at h
      rcases h with h | h
      · have := plist_pos k p h; omega
      · simp at h; omega
    · have := plist_pos k p h; omega
set_option maxRecDepth 100000 in
theorem plist_at : (plist 309).length = 63 ∧ (plist 310).length = 64 := by decide +kernel
def roots2 : List Int := ((plist 310).take 8).map fun (p : Nat) => sq (p : Int) 37 % 4294967296
def roots3 : List Int := (plist 310).map fun (p : Nat) => cb (p : Int) 36 % 4294967296
set_option maxRecDepth 100000 in
theorem roots2_eq : roots2 = [1779033703, 3144134277, 1013904242, 2773480762, 1359893119, 2600822924, 528734635, 1541459225] := by decide +kernel
set_option maxRecDepth 100000 in
theorem roots3_eq : roots3 = kList.map fun x => (x.toNat : Int) := by decide +kernel
end Go.Proofs.YtibkhajhmncgkaaDoor
