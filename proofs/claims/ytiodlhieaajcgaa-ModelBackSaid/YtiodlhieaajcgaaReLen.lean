/- The reference's lengths. -/
import Derived.Test.YtiodlhieaajcgaaReNumAll
import Derived.Test.YtiodlhieaajcgaaMdDist
namespace Go.Proofs.Ytiodlhieaajcgaa
open Go.RowKit

theorem treeGo_enc (g at_ v : Nat) : ∀ n m (x : (encIo g).S), (Md.treeGo (encIo g) at_ (v : Nat) n m x).1 = m * 2 ^ n + v % 2 ^ n
  | 0, m, x => by unfold Md.treeGo; simp; omega
  | n + 1, m, x => by
    unfold Md.treeGo
    rw [treeGo_enc g at_ v n]
    have e : ((encIo g).bitAt (at_ + m) (Md.bitOf (v : Nat) n) x).1 = Md.bitOf (v : Nat) n := rfl
    rw [e, bit_toNat, Nat.mod_pow_succ, Nat.pow_succ, Nat.add_mul]
    generalize v / 2 ^ n % 2 = B
    rw [Nat.mul_comm 2 m, Nat.mul_assoc, Nat.mul_comm 2 (2 ^ n), Nat.mul_comm B]
    omega
theorem tree_enc (g at_ v n : Nat) (hv : v < 2 ^ n) (x : (encIo g).S) : (Md.tree (encIo g) at_ n (v : Nat) x).1 = v := by
  unfold Md.tree
  rw [treeGo_enc, Nat.mod_eq_of_lt hv]
  simp
theorem revGo_enc (g at_ v : Nat) : ∀ k i m q (x : (encIo g).S), (Md.revGo (encIo g) at_ (v : Nat) k i m q x).1 = q + v / 2 ^ i % 2 ^ k * 2 ^ i
  | 0, i, m, q, x => by unfold Md.revGo; simp [Nat.mod_one]
  | k + 1, i, m, q, x => by
    unfold Md.revGo
    rw [revGo_enc g at_ v k]
    have e : ((encIo g).bitAt (at_ + m) (Md.bitOf (v : Nat) i) x).1 = Md.bitOf (v : Nat) i := rfl
    rw [e, bit_toNat]
    have e2 : v / 2 ^ (i + 1) = v / 2 ^ i / 2 := by rw [Nat.div_div_eq_div_mul, ← Nat.pow_succ]
    rw [e2]
    generalize v / 2 ^ i = u
    have e3 : u % 2 ^ (k + 1) = u % 2 + 2 * (u / 2 % 2 ^ k) := by
      have h := Nat.div_add_mod (u % 2 ^ (k + 1)) 2
      rw [Nat.pow_succ, Nat.mul_comm (2 ^ k) 2] at h ⊢
      rw [Nat.mod_mul_right_div_self, Nat.mod_mul_right_mod] at h
      omega
    rw [e3, Nat.add_mul, Nat.pow_succ]
    generalize 2 ^ i = P
    generalize u / 2 % 2 ^ k = W
    generalize u % 2 = B
    rw [Nat.mul_comm P 2, ← Nat.mul_assoc W 2 P, Nat.mul_comm W 2]
    omega
theorem rev_enc (g at_ v n : Nat) (x : (encIo g).S) : (Md.rev (encIo g) at_ n (v : Nat) x).1 = v % 2 ^ n := by
  unfold Md.rev
  rw [revGo_enc]
  simp
theorem len_enc (g A p l : Nat) (h2 : 2 ≤ l) (h3 : l ≤ 273) (x : (encIo g).S) : (Md.len (encIo g) A p (l : Nat) x).1 = l := by
  obtain ⟨n, rfl⟩ : ∃ n, l = n + 2 := ⟨l - 2, by omega⟩
  have e0 : ((n + 2 : Nat) : Int) - 2 = (n : Int) := by omega
  unfold Md.len
  simp only [e0]
  have b1 : ((encIo g).bitAt A (decide ((8 : Int) ≤ (n : Int))) x).1 = decide ((8 : Int) ≤ (n : Int)) := rfl
  rw [b1]
  by_cases h8 : 8 ≤ n
  · rw [show decide ((8 : Int) ≤ (n : Int)) = true from decide_eq_true (by omega)]
    simp only [Bool.true_eq_false, if_false]
    by_cases h16 : 16 ≤ n
    · rw [show decide ((16 : Int) ≤ (n : Int)) = true from decide_eq_true (by omega)]
      have b2 : ((encIo g).bitAt (A + 1) true ((encIo g).bitAt A true x).2).1 = true := rfl
      rw [b2]
      simp only [Bool.true_eq_false, if_false]
      rw [show (n : Int) - 16 = ((n - 16 : Nat) : Int) by omega, tree_enc _ _ _ _ (by omega)]
      omega
    · rw [show decide ((16 : Int) ≤ (n : Int)) = false from decide_eq_false (by omega)]
      have b2 : ((encIo g).bitAt (A + 1) false ((encIo g).bitAt A true x).2).1 = false := rfl
      rw [b2]
      simp only [if_true]
      rw [show (n : Int) - 8 = ((n - 8 : Nat) : Int) by omega, tree_enc _ _ _ _ (by omega)]
      omega
  · rw [show decide ((8 : Int) ≤ (n : Int)) = false from decide_eq_false (by omega)]
    simp only [if_true]
    rw [tree_enc _ _ _ _ (by omega)]
    omega
set_option maxRecDepth 100000 in
set_option maxHeartbeats 2000000 in
theorem relen_any {g C base h N : Nat} {lc lp pb st : Int} {r : R4} {x : (encIo g).S} {Y : List Nat} {w : World} (hM : RE w C base h N lc lp pb st r x Y) {k A p l : Nat} (hok : (encIo g).ok x.2 (k + 20)) (hA : A = 432 ∨ A = 946) (hp : p < 16) (h2 : 2 ≤ l) (h3 : l ≤ 273) (hN : 2180 ≤ N) (hN2 : N ≤ 1000000) {z : (encIo g).S} (hz : (Md.len (encIo g) A p (l : Nat) x).2 = z) :
    Calls Try.prog 33 #[PF C, PF h, .int .i64 (A : Nat), .int .i64 (p : Nat), .int .i64 (l : Nat)] w (MAnd ((encIo g).ok z.2 k) (RDone (.tuple #[]) C base h N lc lp pb st r z Y w)) := by
  obtain ⟨Q, hQ⟩ : ∃ Q, ((encIo g).ok z.2 k) = Q := ⟨_, rfl⟩
  rw [hQ]
  have HQ := Lib.hid hQ
  have HM := Lib.hid hM
  have HOK := Lib.hid hok
  have HA := Lib.hid hA
  obtain ⟨n, rfl⟩ : ∃ n, l = n + 2 := ⟨l - 2, by omega⟩
  have e0 : ((n + 2 : Nat) : Int) - 2 = (n : Int) := by omega
  unfold Md.len at hz
  simp only [e0] at hz
  have hAi : (A : Int) ≤ 946 := by omega
  have hpi : (p : Int) < 16 := by omega
  have hni : (n : Int) ≤ 271 := by omega
  have e0' : ((n + 2 : Nat) : Int) = (n : Int) + 2 := by omega
  rw [e0']
  clear hQ hM hok e0 e0' h2 h3
  by_cases h8 : 8 ≤ n
  · have h8i : ¬ (n : Int) < 8 := by omega
    have hd8 : decide ((8 : Int) ≤ (n : Int)) = true := decide_eq_true (by omega)
    obtain ⟨y, hy⟩ : ∃ y, ((encIo g).bitAt A true x).2 = y := ⟨_, rfl⟩
    have b1 : ((encIo g).bitAt A true x).1 = true := rfl
    rw [hd8, b1, hy] at hz
    simp only [Bool.true_eq_false, if_false] at hz
    obtain ⟨h1, ok1⟩ := rebit_is HM.out (k := k + 17) HOK.out (i := A) (by have := HA.out; omega) true hy
    have H1 := Lib.hid h1
    have HOK1 := Lib.hid ok1
    clear hd8 b1 hy h1 ok1
    by_cases h16 : 16 ≤ n
    · have h16i : ¬ (n : Int) < 16 := by omega
      have hd16 : decide ((16 : Int) ≤ (n : Int)) = true := decide_eq_true (by omega)
      obtain ⟨y2, hy⟩ : ∃ y2, ((encIo g).bitAt (A + 1) true y).2 = y2 := ⟨_, rfl⟩
      have b1 : ((encIo g).bitAt (A + 1) true y).1 = true := rfl
      rw [hd16, b1, hy] at hz
      simp only [Bool.true_eq_false, if_false] at hz
      obtain ⟨m, hm⟩ : ∃ m, n - 16 = m := ⟨_, rfl⟩
      have hmi : (n : Int) - 16 = (m : Int) := by omega
      rw [hmi] at hz
      have HY := Lib.hid hy
      have hzz : (Md.treeGo (encIo g) (A + 258) (m : Nat) 8 1 y2).2 = z := hz
      have HZ := Lib.hid hzz
      have HMM := Lib.hid hm
      clear hz hd16 b1 hy hzz hm
      go_enter Try.func33, Try.ntmps33
      go_wp2_with fail
      refine H1.out.mono ?_
      rintro e w1 ⟨rfl, Y1, hM1, hon1, hY1⟩
      have HO1 := Lib.hid (And.intro hon1 hY1)
      obtain ⟨h1, ok1⟩ := rebit_is hM1 (k := k + 16) HOK1.out (i := A + 1) (by have := HA.out; omega) true HY.out
      have H2 := Lib.hid h1
      have HOK2 := Lib.hid ok1
      clear hM1 hon1 hY1 h1 ok1
      go_wp2_with fail
      refine H2.out.mono ?_
      rintro e w2 ⟨rfl, hw2⟩
      obtain ⟨Y2, hM2, hon2, hY2⟩ := WentR.trans HO1.out.1 HO1.out.2 hw2
      have HO2 := Lib.hid (And.intro hon2 hY2)
      have H3 := Lib.hid (retree_any hM2 (n := 8) (k := k + 7) HOK2.out (at_ := A + 258) (by omega) (by have := HA.out; omega) hN2 m (by have := HMM.out; omega) HZ.out)
      clear hM2 hon2 hY2 hw2
      go_wp2_with fail
      refine H3.out.mono ?_
      rintro e w3 ⟨⟨rfl, hw3⟩, ok3⟩
      go_wp2_with fail
      go_end0
      exact ⟨⟨rfl, WentR.trans HO2.out.1 HO2.out.2 hw3⟩, by rw [← HQ.out]; exact (encIo g).le ok3 (by omega)⟩
    · have h16i : (n : Int) < 16 := by omega
      have hd16 : decide ((16 : Int) ≤ (n : Int)) = false := decide_eq_false (by omega)
      obtain ⟨y2, hy⟩ : ∃ y2, ((encIo g).bitAt (A + 1) false y).2 = y2 := ⟨_, rfl⟩
      have b1 : ((encIo g).bitAt (A + 1) false y).1 = false := rfl
      rw [hd16, b1, hy] at hz
      simp only [if_true] at hz
      obtain ⟨m, hm⟩ : ∃ m, n - 8 = m := ⟨_, rfl⟩
      have hmi : (n : Int) - 8 = (m : Int) := by omega
      rw [hmi] at hz
      have HY := Lib.hid hy
      have hzz : (Md.treeGo (encIo g) (A + 130 + 8 * p) (m : Nat) 3 1 y2).2 = z := hz
      have HZ := Lib.hid hzz
      have HMM := Lib.hid hm
      clear hz hd16 b1 hy hzz hm
      go_enter Try.func33, Try.ntmps33
      go_wp2_with fail
      refine H1.out.mono ?_
      rintro e w1 ⟨rfl, Y1, hM1, hon1, hY1⟩
      have HO1 := Lib.hid (And.intro hon1 hY1)
      obtain ⟨h1, ok1⟩ := rebit_is hM1 (k := k + 16) HOK1.out (i := A + 1) (by have := HA.out; omega) false HY.out
      have H2 := Lib.hid h1
      have HOK2 := Lib.hid ok1
      clear hM1 hon1 hY1 h1 ok1
      go_wp2_with fail
      refine H2.out.mono ?_
      rintro e w2 ⟨rfl, hw2⟩
      obtain ⟨Y2, hM2, hon2, hY2⟩ := WentR.trans HO1.out.1 HO1.out.2 hw2
      have HO2 := Lib.hid (And.intro hon2 hY2)
      have H3 := Lib.hid (retree_any hM2 (n := 3) (k := k + 12) HOK2.out (at_ := A + 130 + 8 * p) (by omega) (by have := HA.out; omega) hN2 m (by have := HMM.out; omega) HZ.out)
      clear hM2 hon2 hY2 hw2
      go_wp2_with fail
      refine H3.out.mono ?_
      rintro e w3 ⟨⟨rfl, hw3⟩, ok3⟩
      go_wp2_with fail
      go_end0
      exact ⟨⟨rfl, WentR.trans HO2.out.1 HO2.out.2 hw3⟩, by rw [← HQ.out]; exact (encIo g).le ok3 (by omega)⟩
  · have h8i : (n : Int) < 8 := by omega
    have hd8 : decide ((8 : Int) ≤ (n : Int)) = false := decide_eq_false (by omega)
    obtain ⟨y, hy⟩ : ∃ y, ((encIo g).bitAt A false x).2 = y := ⟨_, rfl⟩
    have b1 : ((encIo g).bitAt A false x).1 = false := rfl
    rw [hd8, b1, hy] at hz
    simp only [if_true] at hz
    obtain ⟨h1, ok1⟩ := rebit_is HM.out (k := k + 17) HOK.out (i := A) (by have := HA.out; omega) false hy
    have hzz : (Md.treeGo (encIo g) (A + 2 + 8 * p) (n : Nat) 3 1 y).2 = z := hz
    have HZ := Lib.hid hzz
    have H1 := Lib.hid h1
    have HOK1 := Lib.hid ok1
    clear hd8 b1 hy h1 ok1 hz hzz
    go_enter Try.func33, Try.ntmps33
    go_wp2_with fail
    refine H1.out.mono ?_
    rintro e w1 ⟨rfl, Y1, hM1, hon1, hY1⟩
    have HO1 := Lib.hid (And.intro hon1 hY1)
    have H3 := Lib.hid (retree_any hM1 (n := 3) (k := k + 13) HOK1.out (at_ := A + 2 + 8 * p) (by omega) (by have := HA.out; omega) hN2 n (by omega) HZ.out)
    clear hM1 hon1 hY1
    go_wp2_with fail
    refine H3.out.mono ?_
    rintro e w3 ⟨⟨rfl, hw3⟩, ok3⟩
    go_wp2_with fail
    go_end0
    exact ⟨⟨rfl, WentR.trans HO1.out.1 HO1.out.2 hw3⟩, by rw [← HQ.out]; exact (encIo g).le ok3 (by omega)⟩
end Go.Proofs.Ytiodlhieaajcgaa
