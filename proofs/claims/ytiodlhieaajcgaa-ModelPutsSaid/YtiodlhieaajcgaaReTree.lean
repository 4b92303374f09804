/- The reference's trees, over its own range coder. -/
import Derived.Test.YtiodlhieaajcgaaReBit
import Derived.Test.YtiodlhieaajcgaaMdLen
namespace Go.Proofs.Ytiodlhieaajcgaa
open Go.RowKit

theorem RE.st {C base h N : Nat} {lc lp pb st : Int} {r : R4} {x : (Nat → Nat) × Rc.St} {Y : List Nat} {w : World} (hM : RE w C base h N lc lp pb st r x Y) : w.cell? ⟨C, 3, none⟩ = some (.int .i64 st) := by
  obtain ⟨Pl, vR, gR, gP, capP, o, cap, hC, _⟩ := hM.ex
  exact hC.cells.1
theorem rebit_is {g C base h N : Nat} {lc lp pb st : Int} {r : R4} {x : (encIo g).S} {Y : List Nat} {w : World} (hM : RE w C base h N lc lp pb st r x Y) {k : Nat} (hok : (encIo g).ok x.2 (k + 3)) {i : Nat} (hi : i < N) (one : Bool) {y : (encIo g).S} (hy : ((encIo g).bitAt i one x).2 = y) :
    Calls Try.prog 29 #[PF C, PF h, .int .i64 (i : Nat), .int .i64 (bitI one)] w (RDone (.tuple #[]) C base h N lc lp pb st r y Y w) ∧ (encIo g).ok y.2 (k + 2) := by
  subst hy
  refine ⟨rebit_any hM hok.1 (by have := hok.2; omega) i hi one, ?_⟩
  exact (encIo g).okBitAt hok (hM.fair i)
theorem wrap64_in (q : Nat) (h : q < 4294967296) : wrap64 (q : Int) = (q : Int) := by unfold wrap64; omega
theorem bitI_of (v j : Nat) : ((v / 2 ^ j % 2 : Nat) : Int) = bitI (Md.bitOf (v : Nat) j) := by
  unfold Md.bitOf bitI
  have e : ((v : Nat) : Int) / 2 ^ j % 2 = ((v / 2 ^ j % 2 : Nat) : Int) := by simp
  rw [e]
  by_cases h : v / 2 ^ j % 2 = 1
  · rw [h]; rfl
  · have h0 : v / 2 ^ j % 2 = 0 := by omega
    rw [h0]; rfl
theorem tdiv_bit {v j B : Nat} (hv : v < 4294967296) (hB : v / 2 ^ j % 2 = B) : (wrap64 ((v : Int) / ((2 ^ j : Nat) : Int))).tmod 2 = (B : Int) := by
  have h0 : v / 2 ^ j ≤ v := Nat.div_le_self _ _
  have e : (v : Int) / ((2 ^ j : Nat) : Int) = ((v / 2 ^ j : Nat) : Int) := by simp
  rw [e]
  generalize v / 2 ^ j = q at *
  have e2 : wrap64 (q : Int) = (q : Int) := wrap64_in q (by omega)
  rw [e2, Int.tmod_eq_emod_of_nonneg (by omega), ← hB]
  omega
theorem bit_toNat (v j : Nat) : (Md.bitOf (v : Nat) j).toNat = v / 2 ^ j % 2 := by
  have h := bitI_of v j
  have h2 : bitI (Md.bitOf (v : Nat) j) = ((Md.bitOf (v : Nat) j).toNat : Int) := by cases Md.bitOf (v : Nat) j <;> rfl
  rw [h2] at h
  omega
set_option maxRecDepth 100000 in
set_option maxHeartbeats 1000000 in
theorem retree_any {g C base h N : Nat} {lc lp pb st : Int} {r : R4} {x : (encIo g).S} {Y : List Nat} {w : World} (hM : RE w C base h N lc lp pb st r x Y) {n : Nat} {k : Nat} (hok : (encIo g).ok x.2 (k + n + 3)) {at_ : Nat} (hn : n ≤ 8) (hat : at_ + 2 ^ n ≤ N) (hN : N ≤ 1000000) (v : Nat) (hv : v < 4294967296) {z : (encIo g).S} (hz : (Md.treeGo (encIo g) at_ (v : Nat) n 1 x).2 = z) :
    Calls Try.prog 46 #[PF C, PF h, .int .i64 (at_ : Nat), .int .i64 (n : Nat), .int .i64 (v : Nat)] w (MAnd ((encIo g).ok z.2 (k + 3)) (RDone (.tuple #[]) C base h N lc lp pb st r z Y w)) := by
  obtain ⟨Q, hQ⟩ : ∃ Q, ((encIo g).ok z.2 (k + 3)) = Q := ⟨_, rfl⟩
  rw [hQ]
  have HQ := Lib.hid hQ
  have hni : (n : Int) ≤ 8 := by omega
  have HAT := Lib.hid hat
  have hati : (at_ : Int) ≤ 1000000 := by have := Nat.one_le_two_pow (n := n); omega
  have HZ := Lib.hid hz
  have HMM := Lib.hid hM
  clear hQ hat hz hM
  go_enter Try.func46, Try.ntmps46
  go_wp2_with fail
  go_loopw [10, 11] (fun ms i wr => ∃ (j m : Nat) (x' : (encIo g).S) (Y' : List Nat), j ≤ n ∧ ms = .int .i64 (m : Nat) ∧ i = .int .i64 ((j : Int) - 1) ∧ 2 ^ (n - j) ≤ m ∧ m < 2 ^ (n - j) * 2 ∧ Hid ((encIo g).ok x'.2 (k + j + 3)) ∧ Hid ((Md.treeGo (encIo g) at_ (v : Nat) j m x').2 = z) ∧ Hid (RE wr C base h N lc lp pb st r x' Y' ∧ Only Y w wr ∧ ∀ i ∈ Y', i ∈ Y ∨ w.heap.size ≤ i)) (fun _ i _ => (intOf i + 1).toNat)
  case atStart => exact ⟨n, 1, x, Y, Nat.le_refl _, rfl, by go_num, by simp, by simp, Lib.hid hok, HZ, Lib.hid ⟨HMM.out, Only.refl _ _, fun i hi => .inl hi⟩⟩
  case round =>
    obtain ⟨j, m, x', Y', hj, rfl, rfl, hm1, hm2, HOK, HT, HM⟩ := hrel
    cases j with
    | zero =>
      clear hm1 hm2
      go_wp2_with fail
      go_end0
      have hzz : x' = z := HT.out
      rw [← hzz] at HQ ⊢
      exact ⟨⟨rfl, Y', HM.out.1, HM.out.2.1, HM.out.2.2⟩, by rw [← HQ.out]; exact HOK.out⟩
    | succ j =>
      have hml : m < 2 ^ n := by
        have e : 2 ^ (n - (j + 1)) * 2 = 2 ^ (n - j) := by rw [← Nat.pow_succ]; congr 1; omega
        have : 2 ^ (n - j) ≤ 2 ^ n := Nat.pow_le_pow_right (by omega) (by omega)
        omega
      have h256 : m < 256 := by
        have : 2 ^ n ≤ 2 ^ 8 := Nat.pow_le_pow_right (by omega) hn
        omega
      have HTWO := Lib.hid (two_any j (by omega) wr)
      obtain ⟨y, hy⟩ : ∃ y, ((encIo g).bitAt (at_ + m) (Md.bitOf (v : Nat) j) x').2 = y := ⟨_, rfl⟩
      obtain ⟨hb, okb⟩ := rebit_is HM.out.1 (k := k + j + 1) (by rw [show k + j + 1 + 3 = k + (j + 1) + 3 by omega]; exact HOK.out) (i := at_ + m) (by have := HAT.out; omega) (Md.bitOf (v : Nat) j) hy
      have HT2 : Hid ((Md.treeGo (encIo g) at_ (v : Nat) j (2 * m + v / 2 ^ j % 2) y).2 = z) := Lib.hid (by
        rw [← HT.out]
        conv => rhs; unfold Md.treeGo
        rw [hy, ← bit_toNat]; rfl)
      rw [← bitI_of] at hb
      obtain ⟨B, hB⟩ : ∃ B, v / 2 ^ j % 2 = B := ⟨_, rfl⟩
      rw [hB] at hb HT2
      have hB1 : B ≤ 1 := by omega
      have HBIT := Lib.hid hb
      have HOK2 := Lib.hid okb
      have HM1 := Lib.hid hm1
      have HM2 := Lib.hid hm2
      have hmi : (m : Int) < 256 := by omega
      have hBi : (B : Int) ≤ 1 := by omega
      have hpw : ((2 ^ j : Nat) : Int) ≠ 0 := by have := Nat.one_le_two_pow (n := j); omega
      have hdv : (wrap64 ((v : Int) / ((2 ^ j : Nat) : Int))).tmod 2 = (B : Int) := tdiv_bit hv hB
      obtain ⟨ai, hai⟩ : ∃ ai, at_ + m = ai := ⟨_, rfl⟩
      have haii : (at_ : Int) + (m : Int) = (ai : Int) := by omega
      rw [hai] at HBIT
      obtain ⟨PW, hPW⟩ : ∃ PW, 2 ^ j = PW := ⟨_, rfl⟩
      rw [hPW] at HTWO hpw hdv
      clear hb okb hm1 hm2 hy hB h256 hPW hai
      go_wp2_with fail
      refine HTWO.out.mono ?_
      rintro e w1 ⟨rfl, rfl⟩
      go_wp2_with fail
      refine HBIT.out.mono ?_
      rintro e w2 ⟨rfl, hw2⟩
      have HW := Lib.hid (WentR.trans HM.out.2.1 HM.out.2.2 hw2)
      clear hw2
      go_wp2_with fail
      obtain ⟨Y3, hM3, hon3, hY3⟩ := HW.out
      have e2 : 2 ^ (n - j) = 2 ^ (n - (j + 1)) * 2 := by rw [← Nat.pow_succ]; congr 1; omega
      exact ⟨⟨j, 2 * m + B, y, Y3, by omega, by go_num, by go_num, by have := HM1.out; omega, by have := HM2.out; omega, HOK2, HT2, Lib.hid ⟨hM3, hon3, hY3⟩⟩, by simp [intOf] <;> omega⟩
set_option maxRecDepth 100000 in
set_option maxHeartbeats 1000000 in
theorem returned_any {g C base h N : Nat} {lc lp pb st : Int} {r : R4} {x : (encIo g).S} {Y : List Nat} {w : World} (hM : RE w C base h N lc lp pb st r x Y) {n : Nat} {k : Nat} (hok : (encIo g).ok x.2 (k + n + 3)) {at_ : Nat} (hn : n ≤ 5) (hat : at_ + 2 ^ n ≤ N) (hN : N ≤ 1000000) (v u : Nat) (hv : v < 4294967296) (hu : ∀ i, i < n → Md.bitOf (u : Nat) i = Md.bitOf (v : Nat) i) {z : (encIo g).S} (hz : (Md.rev (encIo g) at_ n (u : Nat) x).2 = z) :
    Calls Try.prog 50 #[PF C, PF h, .int .i64 (at_ : Nat), .int .i64 (n : Nat), .int .i64 (v : Nat)] w (MAnd ((encIo g).ok z.2 (k + 3)) (RDone (.tuple #[]) C base h N lc lp pb st r z Y w)) := by
  obtain ⟨Q, hQ⟩ : ∃ Q, ((encIo g).ok z.2 (k + 3)) = Q := ⟨_, rfl⟩
  rw [hQ]
  have HQ := Lib.hid hQ
  have hni : (n : Int) ≤ 5 := by omega
  have HAT := Lib.hid hat
  have hati : (at_ : Int) ≤ 1000000 := by have := Nat.one_le_two_pow (n := n); omega
  have HZ := Lib.hid hz
  have HMM := Lib.hid hM
  have HU := Lib.hid hu
  clear hQ hat hz hM hu
  go_enter Try.func50, Try.ntmps50
  go_wp2_with fail
  go_loopw [4, 10, 11] (fun vs ms i wr => ∃ (j m q g2 : Nat) (x' : (encIo g).S) (Y' : List Nat), j ≤ n ∧ vs = .int .i64 (q : Nat) ∧ ms = .int .i64 (m : Nat) ∧ i = .int .i64 (j : Nat) ∧ Hid (q = v / 2 ^ j) ∧ q < 4294967296 ∧ 2 ^ j ≤ m ∧ m < 2 ^ j * 2 ∧ Hid ((encIo g).ok x'.2 (k + (n - j) + 3)) ∧ Hid ((Md.revGo (encIo g) at_ (u : Nat) (n - j) j m g2 x').2 = z) ∧ Hid (RE wr C base h N lc lp pb st r x' Y' ∧ Only Y w wr ∧ ∀ i ∈ Y', i ∈ Y ∨ w.heap.size ≤ i)) (fun _ _ i _ => n - (intOf i).toNat)
  case atStart => exact ⟨0, 1, v, 0, x, Y, Nat.zero_le _, rfl, rfl, rfl, Lib.hid (by simp), hv, by simp, by simp, Lib.hid hok, HZ, Lib.hid ⟨HMM.out, Only.refl _ _, fun i hi => .inl hi⟩⟩
  case round =>
    obtain ⟨j, m, q, g2, x', Y', hj, rfl, rfl, rfl, HQV, hq, hm1, hm2, HOK, HT, HM⟩ := hrel
    by_cases hjn : j < n
    · have hji : (j : Int) < (n : Int) := by omega
      have h32 : 2 ^ j * 2 ≤ 2 ^ n := by rw [← Nat.pow_succ]; exact Nat.pow_le_pow_right (by omega) (by omega)
      have h33 : 2 ^ n ≤ 2 ^ 5 := Nat.pow_le_pow_right (by omega) hn
      have hml : m < 2 ^ n := by omega
      obtain ⟨y, hy⟩ : ∃ y, ((encIo g).bitAt (at_ + m) (Md.bitOf (u : Nat) j) x').2 = y := ⟨_, rfl⟩
      have ho := HOK.out
      rw [show k + (n - j) + 3 = k + (n - (j + 1)) + 1 + 3 by omega] at ho
      obtain ⟨hb, okb⟩ := rebit_is HM.out.1 (k := k + (n - (j + 1)) + 1) ho (i := at_ + m) (by have := HAT.out; omega) (Md.bitOf (u : Nat) j) hy
      have HT2 : Hid (∃ g3, (Md.revGo (encIo g) at_ (u : Nat) (n - (j + 1)) (j + 1) (2 * m + v / 2 ^ j % 2) g3 y).2 = z) := Lib.hid ⟨g2 + (Md.bitOf (u : Nat) j).toNat * 2 ^ j, by
        rw [← HT.out, show n - j = (n - (j + 1)) + 1 by omega]
        conv => rhs; unfold Md.revGo
        rw [hy, ← bit_toNat, ← HU.out j hjn]; rfl⟩
      rw [HU.out j hjn, ← bitI_of] at hb
      rw [← HQV.out] at hb HT2
      obtain ⟨B, hB⟩ : ∃ B, q % 2 = B := ⟨_, rfl⟩
      rw [hB] at hb HT2
      have hB1 : B ≤ 1 := by omega
      have HBIT := Lib.hid hb
      have HOK2 := Lib.hid okb
      have HB1 := Lib.hid hm1
      have HB2 := Lib.hid hm2
      have hmi : (m : Int) < 32 := by omega
      have hBi : (B : Int) ≤ 1 := by omega
      have hdv : ((q : Nat) : Int).tmod 2 = (B : Int) := by rw [Int.tmod_eq_emod_of_nonneg (by omega), ← hB]; omega
      have hqi : (q : Int) < 4294967296 := by omega
      obtain ⟨ai, hai⟩ : ∃ ai, at_ + m = ai := ⟨_, rfl⟩
      have haii : (at_ : Int) + (m : Int) = (ai : Int) := by omega
      rw [hai] at HBIT
      clear hb okb hm1 hm2 hy hB h32 h33 ho hml hai
      go_wp2_with fail
      refine HBIT.out.mono ?_
      rintro e w2 ⟨rfl, hw2⟩
      have HW := Lib.hid (WentR.trans HM.out.2.1 HM.out.2.2 hw2)
      clear hw2
      go_wp2_with fail
      obtain ⟨Y3, hM3, hon3, hY3⟩ := HW.out
      obtain ⟨g3, hg3⟩ := HT2.out
      have e2 : 2 ^ (j + 1) = 2 ^ j * 2 := Nat.pow_succ _ _
      exact ⟨⟨j + 1, 2 * m + B, q / 2, g3, y, Y3, by omega, by go_num, by go_num, by go_num, Lib.hid (by rw [HQV.out, Nat.div_div_eq_div_mul, ← Nat.pow_succ]), by omega, by have := HB1.out; omega, by have := HB2.out; omega, HOK2, Lib.hid hg3, Lib.hid ⟨hM3, hon3, hY3⟩⟩, by simp [intOf] <;> omega⟩
    · obtain rfl : j = n := by omega
      clear hm1 hm2
      go_wp2_with fail
      go_end0
      have hzz := HT.out
      rw [Nat.sub_self] at hzz
      have hz2 : x' = z := hzz
      have ho := HOK.out
      rw [Nat.sub_self] at ho
      rw [← hz2] at HQ ⊢
      exact ⟨⟨rfl, Y', HM.out.1, HM.out.2.1, HM.out.2.2⟩, by rw [← HQ.out]; exact ho⟩
end Go.Proofs.Ytiodlhieaajcgaa
