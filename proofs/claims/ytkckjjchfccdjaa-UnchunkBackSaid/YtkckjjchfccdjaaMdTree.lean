/- The model's trees. -/
import Derived.Test.YtkckjjchfccdjaaMdMem
import Derived.Laws.BitsLemmas
namespace Go.Proofs.Ytkckjjchfccdjaa
set_option maxRecDepth 100000
open Go.RowKit

theorem i64_and_low (n : Int) (k : Nat) (hk : k ≤ 62) : bits .and .i64 n ((2 ^ k - 1 : Nat) : Int) = n % ((2 ^ k : Nat) : Int) := by
  have h1 : 1 ≤ 2 ^ k := Nat.one_le_two_pow
  have h2 : 2 ^ k ≤ 2 ^ 62 := Nat.pow_le_pow_right (by omega) hk
  have hm : (BitVec.ofInt 64 ((2 ^ k - 1 : Nat) : Int)).toNat = 2 ^ k - 1 := by rw [BitVec.toNat_ofInt]; omega
  have hd : (18446744073709551616 : Int) = ((2 ^ k : Nat) : Int) * ((2 ^ (64 - k) : Nat) : Int) := by
    have : 2 ^ k * 2 ^ (64 - k) = 18446744073709551616 := by rw [← Nat.pow_add, show k + (64 - k) = 64 by omega]
    rw [← Int.natCast_mul, this]; rfl
  have key : ((BitVec.ofInt 64 n &&& BitVec.ofInt 64 ((2 ^ k - 1 : Nat) : Int)).toNat : Int) = n % ((2 ^ k : Nat) : Int) := by
    rw [BitVec.toNat_and, hm, Nat.and_two_pow_sub_one_eq_mod, BitVec.toNat_ofInt]
    rw [Int.natCast_emod, Int.toNat_of_nonneg (Int.emod_nonneg _ (by decide))]
    exact Int.emod_emod_of_dvd n ⟨_, hd⟩
  show IntKind.i64.wrap ((BitVec.ofInt 64 n &&& BitVec.ofInt 64 ((2 ^ k - 1 : Nat) : Int)).toNat : Nat) = n % ((2 ^ k : Nat) : Int)
  have h3 : 0 ≤ n % ((2 ^ k : Nat) : Int) := Int.emod_nonneg _ (by omega)
  have h4 : n % ((2 ^ k : Nat) : Int) < ((2 ^ k : Nat) : Int) := Int.emod_lt_of_pos _ (by omega)
  rw [key, IntKind.wrap_i64]
  omega
theorem i64_and_one (n : Int) : bits .and .i64 n 1 = n % 2 := i64_and_low n 1 (by decide)
namespace Md
/-- The bit that is wanted. -/
def bitOf (v : Int) (i : Nat) : Bool := decide (v / 2 ^ i % 2 = 1)
/-- A tree's bits, the most significant one first. -/
def treeGo (io : Io) (at_ : Nat) (v : Int) : Nat → Nat → io.S → Nat × io.S
  | 0, m, x => (m, x)
  | n + 1, m, x => treeGo io at_ v n (2 * m + (io.bitAt (at_ + m) (bitOf v n) x).1.toNat) (io.bitAt (at_ + m) (bitOf v n) x).2
def tree (io : Io) (at_ : Nat) (n : Nat) (v : Int) (x : io.S) : Nat × io.S := ((treeGo io at_ v n 1 x).1 - 2 ^ n, (treeGo io at_ v n 1 x).2)
theorem treeGo_bounds (io : Io) (at_ : Nat) (v : Int) : ∀ n m x, m * 2 ^ n ≤ (treeGo io at_ v n m x).1 ∧ (treeGo io at_ v n m x).1 < (m + 1) * 2 ^ n
  | 0, m, x => by unfold treeGo; omega
  | n + 1, m, x => by
    unfold treeGo
    obtain ⟨h1, h2⟩ := treeGo_bounds io at_ v n (2 * m + (io.bitAt (at_ + m) (bitOf v n) x).1.toNat) (io.bitAt (at_ + m) (bitOf v n) x).2
    have hb : (io.bitAt (at_ + m) (bitOf v n) x).1.toNat ≤ 1 := by cases (io.bitAt (at_ + m) (bitOf v n) x).1 <;> decide
    refine ⟨Nat.le_trans ?_ h1, Nat.lt_of_lt_of_le h2 ?_⟩
    · rw [Nat.pow_succ, Nat.mul_comm (2 ^ n) 2, ← Nat.mul_assoc]; exact Nat.mul_le_mul_right _ (by omega)
    · rw [Nat.pow_succ, Nat.mul_comm (2 ^ n) 2, ← Nat.mul_assoc]; exact Nat.mul_le_mul_right _ (by omega)
theorem tree_lt (io : Io) (at_ : Nat) (n : Nat) (v : Int) (x : io.S) : 2 ^ n ≤ (treeGo io at_ v n 1 x).1 ∧ (tree io at_ n v x).1 < 2 ^ n := by
  have h := treeGo_bounds io at_ v n 1 x
  unfold tree
  omega
/-- A turned tree's bits, the least significant one first. -/
def revGo (io : Io) (at_ : Nat) (v : Int) : Nat → Nat → Nat → Nat → io.S → Nat × io.S
  | 0, _, _, g, x => (g, x)
  | k + 1, i, m, g, x => revGo io at_ v k (i + 1) (2 * m + (io.bitAt (at_ + m) (bitOf v i) x).1.toNat) (g + (io.bitAt (at_ + m) (bitOf v i) x).1.toNat * 2 ^ i) (io.bitAt (at_ + m) (bitOf v i) x).2
def rev (io : Io) (at_ : Nat) (n : Nat) (v : Int) (x : io.S) : Nat × io.S := revGo io at_ v n 0 1 0 x
theorem revGo_lt (io : Io) (at_ : Nat) (v : Int) : ∀ k i m g x, g < 2 ^ i → (revGo io at_ v k i m g x).1 < 2 ^ (i + k)
  | 0, i, m, g, x, h => h
  | k + 1, i, m, g, x, h => by
    unfold revGo
    have := revGo_lt io at_ v k (i + 1) (2 * m + (io.bitAt (at_ + m) (bitOf v i) x).1.toNat) (g + (io.bitAt (at_ + m) (bitOf v i) x).1.toNat * 2 ^ i) (io.bitAt (at_ + m) (bitOf v i) x).2 (by
      rw [Nat.pow_succ]
      cases (io.bitAt (at_ + m) (bitOf v i) x).1 <;> simp <;> omega)
    rw [show i + (k + 1) = i + 1 + k by omega]; exact this
theorem rev_lt (io : Io) (at_ : Nat) (n : Nat) (v : Int) (x : io.S) : (rev io at_ n v x).1 < 2 ^ n := by
  have := revGo_lt io at_ v n 0 1 0 x (by decide)
  rw [Nat.zero_add] at this; exact this
/-- Where a row of chances lies. -/
structure Seg (C L n2 at_ len b off : Nat) : Prop where
  used : ∀ m, m < len → Md.used n2 (at_ + m)
  adr : ∀ m, m < len → Md.adr C L (at_ + m) = ⟨b, off + m, none⟩
end Md
theorem Io.okBitAt (io : Io) {x : io.S} {i : Nat} {b : Bool} {n : Nat} (h : io.ok x.2 (n + 1)) (hf : 1 ≤ x.1 i ∧ x.1 i ≤ 2047) : io.ok (io.bitAt i b x).2.2 n := io.okBit h hf.1 hf.2
set_option maxRecDepth 100000 in
set_option maxHeartbeats 1000000 in
theorem tree_ms (io : Io) {C L lc lp pb st : Nat} {r : R4} {x : io.S} {X : List Nat} {w : World} (hM : MS io w C L lc lp pb st r x X) {at_ len b off cp n : Nat} (hok : io.ok x.2 n) (hseg : Md.Seg C L (2 ^ (lc + lp)) at_ len b off) (hn : n ≤ 8) (hl : 2 ^ n ≤ len) (hc : len ≤ cp) (hcp : cp ≤ 9223372036854775807) (v : Int) :
    Calls Try.prog 107 #[io.v, .slice (some ⟨b, off, none⟩) len cp, .int .i64 (n : Nat), .int .i64 v] w (MDone (.int .i64 ((Md.tree io at_ n v x).1 : Nat)) io C L lc lp pb st r (Md.tree io at_ n v x).2 X w) := by
  have hni : (n : Int) ≤ 8 := by omega
  have hone := fun y => i64_and_one y
  go_enter Try.func107, Try.ntmps107
  go_wp2_with fail
  go_loopw [9, 10] (fun ms i wr => ∃ (j m : Nat) (x' : io.S) (X' : List Nat), j ≤ n ∧ ms = .int .i64 (m : Nat) ∧ i = .int .i64 ((j : Int) - 1) ∧ 2 ^ (n - j) ≤ m ∧ m < 2 ^ (n - j) * 2 ∧ Hid (io.ok x'.2 j) ∧ Hid (Md.treeGo io at_ v j m x' = Md.treeGo io at_ v n 1 x) ∧ Hid (MS io wr C L lc lp pb st r x' X' ∧ Only (C :: L :: X) w wr ∧ ∀ i ∈ X', i ∈ X ∨ w.heap.size ≤ i)) (fun _ i _ => (intOf i + 1).toNat)
  case atStart => exact ⟨n, 1, x, X, Nat.le_refl _, rfl, by go_num, by simp, by simp, Lib.hid hok, Lib.hid rfl, Lib.hid ⟨hM, Only.refl _ _, fun i hi => .inl hi⟩⟩
  case round =>
    obtain ⟨j, m, x', X', hj, rfl, rfl, hm1, hm2, HOK, HT, HM⟩ := hrel
    cases j with
    | zero =>
      have h256 : 2 ^ n ≤ 2 ^ 8 := Nat.pow_le_pow_right (by omega) hn
      rw [Nat.sub_zero] at hm1 hm2
      have HR : Hid ((Md.tree io at_ n v x).1 = m - 2 ^ n ∧ (Md.tree io at_ n v x).2 = x') := Lib.hid (by unfold Md.tree; rw [← HT.out]; exact ⟨rfl, rfl⟩)
      have HI : Hid (wrap64 ((m : Int) - wrap64 (2 ^ n)) = ((m - 2 ^ n : Nat) : Int)) := Lib.hid (by
        have e : (2 : Int) ^ n = ((2 ^ n : Nat) : Int) := by simp
        rw [e]
        have e1 : wrap64 ((2 ^ n : Nat) : Int) = ((2 ^ n : Nat) : Int) := by unfold wrap64; omega
        rw [e1]
        unfold wrap64
        omega)
      clear h256 hm1 hm2
      go_wp2_with fail
      go_ret
      rw [HR.out.1, HR.out.2, HI.out]
      exact ⟨rfl, X', HM.out.1, HM.out.2.1, HM.out.2.2⟩
    | succ j =>
      have hml : m < len := by
        have e : 2 ^ (n - (j + 1)) * 2 = 2 ^ (n - j) := by rw [← Nat.pow_succ]; congr 1; omega
        have : 2 ^ (n - j) ≤ 2 ^ n := Nat.pow_le_pow_right (by omega) (by omega)
        omega
      have h256 : m < 2 ^ 8 * 2 := Nat.lt_of_lt_of_le hm2 (Nat.mul_le_mul_right _ (Nat.pow_le_pow_right (by omega) (by omega)))
      have HCODE := Lib.hid (code_ms io HM.out.1 (io.le HOK.out (by omega)) (hseg.used m hml) (hseg.adr m hml) hml hc hcp (Md.bitOf v j))
      have hfr := HM.out.1.mod.fair (at_ + m)
      have HOK2 := Lib.hid (io.okBitAt (i := at_ + m) (b := Md.bitOf v j) HOK.out hfr)
      have HT2 : Hid (Md.treeGo io at_ v j (2 * m + (io.bitAt (at_ + m) (Md.bitOf v j) x').1.toNat) (io.bitAt (at_ + m) (Md.bitOf v j) x').2 = Md.treeGo io at_ v n 1 x) := Lib.hid (by rw [← HT.out]; rfl)
      have HM1 := Lib.hid hm1
      have HM2 := Lib.hid hm2
      obtain ⟨⟨B, y⟩, hy⟩ : ∃ z, io.bitAt (at_ + m) (Md.bitOf v j) x' = z := ⟨_, rfl⟩
      rw [hy] at HCODE HOK2 HT2
      simp only at HCODE HOK2 HT2
      clear hy hm1 hm2 hfr
      go_wp2_with fail
      refine HCODE.out.mono ?_
      rintro e w2 ⟨rfl, X2, hM2, hon2, hX2⟩
      have hw : Went io C L lc lp pb st r y X w w2 := Went.trans HM.out.2.1 HM.out.2.2 ⟨X2, hM2, hon2, hX2⟩
      have HW := Lib.hid hw
      have hB : bitI B = (B.toNat : Int) := by cases B <;> rfl
      have hBl : B.toNat ≤ 1 := by cases B <;> decide
      rw [hB]
      have hmi : (m : Int) < 512 := by omega
      have hBi : (B.toNat : Int) ≤ 1 := by omega
      clear hM2 hon2 hX2 hw hB
      go_wp2_with fail
      obtain ⟨X3, hM3, hon3, hX3⟩ := HW.out
      have e2 : 2 ^ (n - j) = 2 ^ (n - (j + 1)) * 2 := by rw [← Nat.pow_succ]; congr 1; omega
      exact ⟨⟨j, 2 * m + B.toNat, y, X3, by omega, by go_num, by go_num, by have := HM1.out; omega, by have := HM2.out; omega, HOK2, HT2, Lib.hid ⟨hM3, hon3, hX3⟩⟩, by simp [intOf] <;> omega⟩
theorem i64_or_bit (g i : Nat) (B : Bool) (hg : g < 2 ^ i) (hi : i ≤ 8) : bits .or .i64 (g : Int) (((B.toNat * 2 ^ i : Nat)) : Int) = ((g + B.toNat * 2 ^ i : Nat) : Int) := by
  have h2 : 2 ^ i ≤ 2 ^ 8 := Nat.pow_le_pow_right (by omega) hi
  have hB : B.toNat * 2 ^ i ≤ 256 := by cases B <;> simp <;> omega
  have e1 : (BitVec.ofInt 64 (g : Int)).toNat = g := by rw [BitVec.toNat_ofInt]; omega
  have e2 : (BitVec.ofInt 64 ((B.toNat * 2 ^ i : Nat) : Int)).toNat = B.toNat * 2 ^ i := by rw [BitVec.toNat_ofInt]; omega
  show IntKind.i64.wrap ((BitVec.ofInt 64 (g : Int) ||| BitVec.ofInt 64 ((B.toNat * 2 ^ i : Nat) : Int)).toNat : Nat) = _
  rw [BitVec.toNat_or, e1, e2, Nat.or_comm, Nat.mul_comm, ← Nat.two_pow_add_eq_or_of_lt hg, IntKind.wrap_i64, Nat.mul_comm, Nat.add_comm]
  omega
set_option maxRecDepth 100000 in
set_option maxHeartbeats 1000000 in
theorem rev_ms (io : Io) {C L lc lp pb st : Nat} {r : R4} {x : io.S} {X : List Nat} {w : World} (hM : MS io w C L lc lp pb st r x X) {at_ len b off cp n : Nat} (hok : io.ok x.2 n) (hseg : Md.Seg C L (2 ^ (lc + lp)) at_ len b off) (hn : n ≤ 5) (hl : 2 ^ n ≤ len) (hc : len ≤ cp) (hcp : cp ≤ 9223372036854775807) (v : Int) :
    Calls Try.prog 109 #[io.v, .slice (some ⟨b, off, none⟩) len cp, .int .i64 (n : Nat), .int .i64 v] w (MDone (.int .i64 ((Md.rev io at_ n v x).1 : Nat)) io C L lc lp pb st r (Md.rev io at_ n v x).2 X w) := by
  have hni : (n : Int) ≤ 5 := by omega
  have hone := fun y => i64_and_one y
  go_enter Try.func109, Try.ntmps109
  go_wp2_with fail
  go_loopw [9, 10, 14] (fun ms gs i wr => ∃ (j m g : Nat) (x' : io.S) (X' : List Nat), j ≤ n ∧ ms = .int .i64 (m : Nat) ∧ gs = .int .i64 (g : Nat) ∧ i = .int .i64 (j : Nat) ∧ 2 ^ j ≤ m ∧ m < 2 ^ j * 2 ∧ g < 2 ^ j ∧ Hid (io.ok x'.2 (n - j)) ∧ Hid (Md.revGo io at_ v (n - j) j m g x' = Md.rev io at_ n v x) ∧ Hid (MS io wr C L lc lp pb st r x' X' ∧ Only (C :: L :: X) w wr ∧ ∀ i ∈ X', i ∈ X ∨ w.heap.size ≤ i)) (fun _ _ i _ => n - (intOf i).toNat)
  case atStart => exact ⟨0, 1, 0, x, X, Nat.zero_le _, rfl, rfl, rfl, by simp, by simp, by simp, Lib.hid hok, Lib.hid rfl, Lib.hid ⟨hM, Only.refl _ _, fun i hi => .inl hi⟩⟩
  case round =>
    obtain ⟨j, m, g, x', X', hj, rfl, rfl, rfl, hm1, hm2, hg, HOK, HT, HM⟩ := hrel
    by_cases hjn : j < n
    · have hji : (j : Int) < (n : Int) := by omega
      have h32 : 2 ^ j * 2 ≤ 2 ^ n := by rw [← Nat.pow_succ]; exact Nat.pow_le_pow_right (by omega) (by omega)
      have h33 : 2 ^ n ≤ 2 ^ 5 := Nat.pow_le_pow_right (by omega) hn
      have hml : m < len := by omega
      have HCODE := Lib.hid (code_ms io HM.out.1 (io.le HOK.out (by omega)) (hseg.used m hml) (hseg.adr m hml) hml hc hcp (Md.bitOf v j))
      have hfr := HM.out.1.mod.fair (at_ + m)
      have ho := HOK.out
      rw [show n - j = (n - (j + 1)) + 1 by omega] at ho
      have HOK2 := Lib.hid (io.okBitAt (i := at_ + m) (b := Md.bitOf v j) ho hfr)
      have HT2 : Hid (Md.revGo io at_ v (n - (j + 1)) (j + 1) (2 * m + (io.bitAt (at_ + m) (Md.bitOf v j) x').1.toNat) (g + (io.bitAt (at_ + m) (Md.bitOf v j) x').1.toNat * 2 ^ j) (io.bitAt (at_ + m) (Md.bitOf v j) x').2 = Md.rev io at_ n v x) := Lib.hid (by rw [← HT.out, show n - j = (n - (j + 1)) + 1 by omega]; rfl)
      have HB1 := Lib.hid (And.intro hm1 (And.intro hm2 hg))
      have hm32 : m < 32 := by omega
      have hg32 : g < 32 := by omega
      obtain ⟨⟨B, y⟩, hy⟩ : ∃ z, io.bitAt (at_ + m) (Md.bitOf v j) x' = z := ⟨_, rfl⟩
      rw [hy] at HCODE HOK2 HT2
      simp only at HCODE HOK2 HT2
      clear hy hm1 hm2 hfr ho h32 h33 hg
      have hji5 : (j : Int) ≤ 5 := by omega
      go_wp2_with fail
      refine HCODE.out.mono ?_
      rintro e w2 ⟨rfl, X2, hM2, hon2, hX2⟩
      have hw : Went io C L lc lp pb st r y X w w2 := Went.trans HM.out.2.1 HM.out.2.2 ⟨X2, hM2, hon2, hX2⟩
      have HW := Lib.hid hw
      have hB : bitI B = (B.toNat : Int) := by cases B <;> rfl
      have hBl : B.toNat ≤ 1 := by cases B <;> decide
      rw [hB]
      have hmi : (m : Int) < 32 := by omega
      have hBi : (B.toNat : Int) ≤ 1 := by omega
      clear hM2 hon2 hX2 hw hB
      go_wp2_with fail
      obtain ⟨X3, hM3, hon3, hX3⟩ := HW.out
      have hb := HB1.out
      have hp8 : 2 ^ j ≤ 2 ^ 5 := Nat.pow_le_pow_right (by omega) (by omega)
      have e2 : 2 ^ (j + 1) = 2 ^ j * 2 := Nat.pow_succ _ _
      have e3 : wrap64 ((B.toNat : Int) * 2 ^ j) = ((B.toNat * 2 ^ j : Nat) : Int) := by
        have : B.toNat * 2 ^ j ≤ 32 := by cases B <;> simp <;> omega
        rw [show (2 : Int) ^ j = ((2 ^ j : Nat) : Int) by simp, ← Int.natCast_mul]
        unfold wrap64; omega
      have hBj : B.toNat * 2 ^ j ≤ 2 ^ j := by cases B <;> simp
      exact ⟨⟨j + 1, 2 * m + B.toNat, g + B.toNat * 2 ^ j, y, X3, by omega, by go_num, by rw [e3, i64_or_bit g j B hb.2.2 (by omega)], by go_num, by omega, by omega, by omega, HOK2, HT2, Lib.hid ⟨hM3, hon3, hX3⟩⟩, by simp [intOf] <;> omega⟩
    · obtain rfl : j = n := by omega
      have hR := HT.out
      rw [Nat.sub_self] at hR
      have HR : Hid (Md.rev io at_ j v x = (g, x')) := Lib.hid hR.symm
      clear hR hm1 hm2 hg
      go_wp2_with fail
      go_ret
      rw [HR.out]
      exact ⟨rfl, X', HM.out.1, HM.out.2.1, HM.out.2.2⟩
theorem Io.ok_treeGo (io : Io) (at_ : Nat) (v : Int) : ∀ n k m (x : io.S), io.ok x.2 (n + k) → (∀ i, 1 ≤ x.1 i ∧ x.1 i ≤ 2047) → io.ok (Md.treeGo io at_ v n m x).2.2 k
  | 0, k, m, x, h, hf => by rw [Nat.zero_add] at h; exact h
  | n + 1, k, m, x, h, hf => by
    unfold Md.treeGo
    have h2 : io.ok (io.bitAt (at_ + m) (Md.bitOf v n) x).2.2 (n + k) := io.okBitAt (by rw [show n + k + 1 = n + 1 + k by omega]; exact h) (hf _)
    refine Io.ok_treeGo io at_ v n k _ _ h2 (fun i => ?_)
    have hn := Rc.next_bounds (hf (at_ + m)).1 (hf (at_ + m)).2 (io.bit x.2 (x.1 (at_ + m)) (Md.bitOf v n)).1
    have hi := hf i
    unfold Io.bitAt Md.put
    simp only
    split
    · exact hn
    · exact hi
theorem Io.ok_revGo (io : Io) (at_ : Nat) (v : Int) : ∀ n k i m g (x : io.S), io.ok x.2 (n + k) → (∀ i, 1 ≤ x.1 i ∧ x.1 i ≤ 2047) → io.ok (Md.revGo io at_ v n i m g x).2.2 k
  | 0, k, i, m, g, x, h, hf => by rw [Nat.zero_add] at h; exact h
  | n + 1, k, i, m, g, x, h, hf => by
    unfold Md.revGo
    have h2 : io.ok (io.bitAt (at_ + m) (Md.bitOf v i) x).2.2 (n + k) := io.okBitAt (by rw [show n + k + 1 = n + 1 + k by omega]; exact h) (hf _)
    refine Io.ok_revGo io at_ v n k _ _ _ _ h2 (fun j => ?_)
    have hn := Rc.next_bounds (hf (at_ + m)).1 (hf (at_ + m)).2 (io.bit x.2 (x.1 (at_ + m)) (Md.bitOf v i)).1
    have hi := hf j
    unfold Io.bitAt Md.put
    simp only
    split
    · exact hn
    · exact hi
/-- The contracts, with their results named. -/
theorem tree_is (io : Io) {C L lc lp pb st : Nat} {r : R4} {x : io.S} {X : List Nat} {w : World} (hM : MS io w C L lc lp pb st r x X) {at_ len b off cp n k : Nat} {v : Int} {tv : Nat} {z : io.S} (hz : Md.tree io at_ n v x = (tv, z)) (hok : io.ok x.2 (n + k)) (hseg : Md.Seg C L (2 ^ (lc + lp)) at_ len b off) (hn : n ≤ 8) (hl : 2 ^ n ≤ len) (hc : len ≤ cp) (hcp : cp ≤ 9223372036854775807) :
    Calls Try.prog 107 #[io.v, .slice (some ⟨b, off, none⟩) len cp, .int .i64 (n : Nat), .int .i64 v] w (MDone (.int .i64 (tv : Nat)) io C L lc lp pb st r z X w) ∧ tv < 2 ^ n ∧ io.ok z.2 k := by
  have h := tree_ms io hM (io.le hok (by omega)) hseg hn hl hc hcp v
  have h2 := (Md.tree_lt io at_ n v x).2
  have h3 := Io.ok_treeGo io at_ v n k 1 x hok hM.mod.fair
  have h4 : (Md.treeGo io at_ v n 1 x).2 = z := congrArg Prod.snd hz
  rw [hz] at h h2
  rw [h4] at h3
  exact ⟨h, h2, h3⟩
theorem rev_is (io : Io) {C L lc lp pb st : Nat} {r : R4} {x : io.S} {X : List Nat} {w : World} (hM : MS io w C L lc lp pb st r x X) {at_ len b off cp n k : Nat} {v : Int} {tv : Nat} {z : io.S} (hz : Md.rev io at_ n v x = (tv, z)) (hok : io.ok x.2 (n + k)) (hseg : Md.Seg C L (2 ^ (lc + lp)) at_ len b off) (hn : n ≤ 5) (hl : 2 ^ n ≤ len) (hc : len ≤ cp) (hcp : cp ≤ 9223372036854775807) :
    Calls Try.prog 109 #[io.v, .slice (some ⟨b, off, none⟩) len cp, .int .i64 (n : Nat), .int .i64 v] w (MDone (.int .i64 (tv : Nat)) io C L lc lp pb st r z X w) ∧ tv < 2 ^ n ∧ io.ok z.2 k := by
  have h := rev_ms io hM (io.le hok (by omega)) hseg hn hl hc hcp v
  have h2 := Md.rev_lt io at_ n v x
  have h3 := Io.ok_revGo io at_ v n k 0 1 0 x hok hM.mod.fair
  have h4 : (Md.revGo io at_ v n 0 1 0 x).2 = z := congrArg Prod.snd hz
  rw [hz] at h h2
  rw [h4] at h3
  exact ⟨h, h2, h3⟩
theorem bit_is (io : Io) {C L lc lp pb st : Nat} {r : R4} {x : io.S} {X : List Nat} {w : World} (hM : MS io w C L lc lp pb st r x X) {at_ i len b off cp j k : Nat} {one B : Bool} {y : io.S} (hz : io.bitAt i one x = (B, y)) (hi : i = at_ + j) (hok : io.ok x.2 (k + 1)) (hseg : Md.Seg C L (2 ^ (lc + lp)) at_ len b off) (hj : j < len) (hn : len ≤ cp) (hcp : cp ≤ 9223372036854775807) :
    Calls Try.prog 88 #[io.v, .slice (some ⟨b, off, none⟩) len cp, .int .i64 (j : Nat), .bool one] w (MDone (.int .i64 (bitI B)) io C L lc lp pb st r y X w) ∧ io.ok y.2 k := by
  subst hi
  have h := code_ms io hM (io.le hok (by omega)) (hseg.used j hj) (hseg.adr j hj) hj hn hcp one
  have h3 := io.okBitAt (i := at_ + j) (b := one) hok (hM.mod.fair _)
  rw [hz] at h h3
  exact ⟨h, h3⟩
theorem plain_is (io : Io) {C L lc lp pb st : Nat} {r : R4} {x : io.S} {X : List Nat} {w : World} (hM : MS io w C L lc lp pb st r x X) {v m q k : Nat} {s2 : io.σ} (hz : io.plain x.2 (v % 2 ^ m) m = (q, s2)) (hok : io.ok x.2 (k + 32)) (hv : v < 4294967296) (hm : m ≤ 32) :
    Calls Try.prog io.F #[.pointer (some ⟨io.g, 0, none⟩), .int .u32 (v : Nat), .int .i64 (m : Nat)] w (MDone (.int .u32 (q : Nat)) io C L lc lp pb st r (x.1, s2) X w) ∧ q < 2 ^ m ∧ io.ok s2 k := by
  have h := io.plain_ w x.2 X v m hM.io (io.le hok (by omega)) hv hm
  have h2 := io.okPlain (x := v % 2 ^ m) hok hm
  have h3 := io.plainLt (x := v % 2 ^ m) (m := m) hok (Nat.mod_lt _ (Nat.pow_pos (by decide)))
  rw [hz] at h h2 h3
  refine ⟨h.mono ?_, h3, h2⟩
  rintro e w' ⟨rfl, X', hon, hat, hX'⟩
  have hC : w'.heap[C]? = w.heap[C]? := hon.block C hM.mod.clt hM.outC
  have hL : w'.heap[L]? = w.heap[L]? := hon.block L hM.mod.llt hM.outL
  refine ⟨rfl, X', ⟨hM.mod.keep hC hL, hat, fun h => ?_, fun h => ?_⟩, ⟨hon.os, hon.tape, hon.output, hon.size, fun i hi hX => hon.block i hi (fun h => hX (by simp [h]))⟩, hX'⟩
  · rcases hX' C h with h | h
    · exact hM.outC h
    · have := hM.mod.clt; omega
  · rcases hX' L h with h | h
    · exact hM.outL h
    · have := hM.mod.llt; omega
theorem Md.seg_head {C L n2 at_ len off : Nat} (ho : off = 8 + at_) (h2 : at_ + len ≤ 432) : Md.Seg C L n2 at_ len C off :=
  ⟨fun m hm => .inl (by omega), fun m hm => by
    unfold Md.adr Md.blkOf Md.offOf
    rw [if_pos (by omega), if_pos (by omega)]
    rw [show 8 + (at_ + m) = off + m by omega]⟩
theorem Md.seg_mid {C L n2 at_ len off : Nat} (ho : off = 9 + at_) (h1 : 432 ≤ at_) (h2 : at_ + len ≤ 1716) : Md.Seg C L n2 at_ len C off :=
  ⟨fun m hm => .inl (by omega), fun m hm => by
    unfold Md.adr Md.blkOf Md.offOf
    rw [if_pos (by omega), if_neg (by omega), if_pos (by omega)]
    rw [show 9 + (at_ + m) = off + m by omega]⟩
theorem Md.seg_tail {C L n2 at_ len off : Nat} (ho : off + 119 = at_) (h1 : 1844 ≤ at_) (h2 : at_ + len ≤ 2180) : Md.Seg C L n2 at_ len C off :=
  ⟨fun m hm => .inr ⟨by omega, by omega⟩, fun m hm => by
    unfold Md.adr Md.blkOf Md.offOf
    rw [if_pos (by omega), if_neg (by omega), if_neg (by omega), if_pos (by omega)]
    rw [show at_ + m - 119 = off + m by omega]⟩
theorem Md.seg_lits {C L n2 at_ len off : Nat} (ho : off + 2180 = at_) (h2 : at_ + len ≤ 2180 + 768 * n2) : Md.Seg C L n2 at_ len L off :=
  ⟨fun m hm => .inr ⟨by omega, by omega⟩, fun m hm => by
    unfold Md.adr Md.blkOf Md.offOf
    rw [if_neg (by omega), if_neg (by omega), if_neg (by omega), if_neg (by omega)]
    rw [show at_ + m - 2180 = off + m by omega]⟩
end Go.Proofs.Ytkckjjchfccdjaa
