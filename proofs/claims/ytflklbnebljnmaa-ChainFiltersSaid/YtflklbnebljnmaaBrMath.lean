/- The filters are the document's, and each undoes itself. -/
import Derived.Test.YtflklbnebljnmaaBrRef
namespace Go.Proofs.Ytflklbnebljnmaa
open Go.RowKit

theorem tld_comb (back : Bool) (n p k : Nat) (hn : n < 4294967296) (hp : p < 4294967296) (hk : k ≤ 32) : tld back (n % 2 ^ k) p (2 ^ k) = comb back n p % 2 ^ k := by
  have hd : (4294967296 : Nat) = 2 ^ k * 2 ^ (32 - k) := by rw [← Nat.pow_add, show k + (32 - k) = 32 by omega]
  unfold tld comb
  cases back with
  | false =>
    simp only [Bool.false_eq_true, if_false]
    rw [hd, Nat.mod_mul_right_mod, Nat.mod_add_mod]
  | true =>
    simp only [if_true]
    have e : (n + 4294967296 - p : Nat) % 4294967296 % 2 ^ k = (n + 4294967296 - p : Nat) % 2 ^ k := by
      generalize n + 4294967296 - p = x
      rw [hd, Nat.mod_mul_right_mod]
    rw [e]
    have h1 : (((n + 4294967296 - p) % 2 ^ k : Nat) : Int) = ((n : Int) - p) % ((2 ^ k : Nat) : Int) := by
      rw [Int.natCast_emod]
      have : ((n + 4294967296 - p : Nat) : Int) = ((n : Int) - p) + ((2 ^ k : Nat) : Int) * ((2 ^ (32 - k) : Nat) : Int) := by
        rw [← Int.natCast_mul, ← hd]; omega
      rw [this, Int.add_mul_emod_self_left]
    have h2 : (((n % 2 ^ k : Nat) : Int) - p) % ((2 ^ k : Nat) : Int) = ((n : Int) - p) % ((2 ^ k : Nat) : Int) := by
      rw [Int.natCast_emod, Int.emod_sub_emod]
    rw [h2, ← h1, Int.toNat_natCast]

theorem ppc_eq (back : Bool) (W P : Nat) (hW : W < 4294967296) (hP : P < 4294967296) : ppc back W P = rPpc back W P := by
  unfold ppc rPpc
  split
  · have h := tld_comb back (W / 4) (P / 4) 24 (by omega) (by omega) (by omega)
    have hl := comb_lt back (W / 4) (P / 4)
    simp only [mix]
    generalize comb back (W / 4) (P / 4) = C at *
    rw [show (16777216 : Nat) = 2 ^ 24 from rfl, h]
    simp only [Nat.reducePow, Nat.reduceSub]
    omega
  · rfl
theorem arm_eq (back : Bool) (W P : Nat) (hW : W < 4294967296) (hP : P < 4294967296) : arm back W P = rArm back W P := by
  unfold arm rArm
  split
  · have h := tld_comb back W (P / 4 + 2) 24 (by omega) (by omega) (by omega)
    have hl := comb_lt back W (P / 4 + 2)
    simp only [mix]
    generalize comb back W (P / 4 + 2) = C at *
    rw [show W % 16777216 = W % 2 ^ 24 from rfl, show tld back (W % 2 ^ 24) (P / 4 + 2) 16777216 = tld back (W % 2 ^ 24) (P / 4 + 2) (2 ^ 24) from rfl, h]
    simp only [Nat.reducePow, Nat.reduceSub]
    omega
  · rfl
theorem sparc_eq (back : Bool) (W P : Nat) (hW : W < 4294967296) (hP : P < 4294967296) : sparc back W P = rSparc back W P := by
  unfold sparc rSparc
  split
  · have h := tld_comb back W (P / 4) 23 (by omega) (by omega) (by omega)
    have hl := comb_lt back W (P / 4)
    simp only [mix]
    generalize comb back W (P / 4) = C at *
    rw [show W % 8388608 = W % 2 ^ 23 from rfl, show tld back (W % 2 ^ 23) (P / 4) 8388608 = tld back (W % 2 ^ 23) (P / 4) (2 ^ 23) from rfl, h]
    unfold ext sgn
    simp only [Nat.reducePow, Nat.reduceSub, Nat.reduceDiv]
    split <;> split <;> omega
  · rfl
theorem ext_sgn (x : Nat) : ext 262144 x % 2097152 = sgn (x % 262144) 262144 2097152 := by
  unfold ext sgn; split <;> split <;> omega
theorem pageOf_eq (W E : Nat) (h1 : W / 2147483648 = 1) (h2 : W / 16777216 % 32 = 16) : pageOf W E = rPageOf W (E % 2097152) := by
  unfold pageOf rPageOf
  simp only [mix, Nat.reducePow, Nat.reduceSub]
  omega
theorem arm64_eq (back : Bool) (W P : Nat) (hW : W < 4294967296) (hP : P < 4294967296) : arm64 back W P = rArm64 back W P := by
  unfold arm64 rArm64 page
  split
  · have h := tld_comb back W (P / 4) 26 (by omega) (by omega) (by omega)
    have hl := comb_lt back W (P / 4)
    simp only [mix]
    generalize comb back W (P / 4) = C at *
    rw [show W % 67108864 = W % 2 ^ 26 from rfl, show tld back (W % 2 ^ 26) (P / 4) 67108864 = tld back (W % 2 ^ 26) (P / 4) (2 ^ 26) from rfl, h]
    simp only [Nat.reducePow, Nat.reduceSub]
    omega
  · split
    · rename_i h
      have hN : pageNo W < 2097152 := by unfold pageNo; omega
      have ht := tld_comb back (pageNo W) (P / 4096) 18 (by omega) (by omega) (by omega)
      rw [pageOf_eq W _ h.1.1 h.1.2, ext_sgn]
      rw [show pageNo W % 262144 = pageNo W % 2 ^ 18 from rfl, show tld back (pageNo W % 2 ^ 18) (P / 4096) 262144 = tld back (pageNo W % 2 ^ 18) (P / 4096) (2 ^ 18) from rfl, ht]
    · rfl

theorem comb_back (back : Bool) (n p : Nat) (hn : n < 4294967296) (hp : p < 4294967296) : comb (!back) (comb back n p) p = n := by
  unfold comb; cases back <;> simp <;> omega
theorem tld_back (back : Bool) (n p m : Nat) (hn : n < m) : tld (!back) (tld back n p m) p m = n := by
  unfold tld
  have hm : (0 : Int) < m := by omega
  cases back with
  | false =>
    simp only [Bool.not_false, if_true, Bool.false_eq_true, if_false]
    rw [Int.natCast_emod, Int.emod_sub_emod]
    have e : ((n + p : Nat) : Int) - (p : Int) = n := by omega
    rw [e, Int.emod_eq_of_lt (by omega) (by omega)]; simp
  | true =>
    simp only [Bool.not_true, if_true, Bool.false_eq_true, if_false]
    have h1 := Int.emod_nonneg ((n : Int) - p) (show (m : Int) ≠ 0 by omega)
    have h2 : ((((((n : Int) - p) % m).toNat + p) % m : Nat) : Int) = n := by
      rw [Int.natCast_emod, Int.natCast_add, Int.toNat_of_nonneg h1, Int.emod_add_emod, Int.sub_add_cancel, Int.emod_eq_of_lt (by omega) (by omega)]
    omega

theorem rPpc_back (back : Bool) (W P : Nat) : rPpc (!back) (rPpc back W P) P = W := by
  by_cases h : W / 67108864 = 18 ∧ W % 4 = 1
  · have hl := tld_lt back (W / 4 % 16777216) (P / 4) 16777216 (by omega)
    have hb := tld_back back (W / 4 % 16777216) (P / 4) 16777216 (by omega)
    have e : rPpc back W P = 1207959552 + 4 * tld back (W / 4 % 16777216) (P / 4) 16777216 + 1 := by unfold rPpc; rw [if_pos h]
    rw [e]
    generalize tld back (W / 4 % 16777216) (P / 4) 16777216 = T at *
    unfold rPpc
    rw [if_pos (by omega), show (1207959552 + 4 * T + 1) / 4 % 16777216 = T by omega, hb]
    omega
  · have e : rPpc back W P = W := by unfold rPpc; rw [if_neg h]
    rw [e]; unfold rPpc; rw [if_neg h]
theorem rArm_back (back : Bool) (W P : Nat) : rArm (!back) (rArm back W P) P = W := by
  by_cases h : W / 16777216 = 235
  · have hl := tld_lt back (W % 16777216) (P / 4 + 2) 16777216 (by omega)
    have hb := tld_back back (W % 16777216) (P / 4 + 2) 16777216 (by omega)
    have e : rArm back W P = 3942645760 + tld back (W % 16777216) (P / 4 + 2) 16777216 := by unfold rArm; rw [if_pos h]
    rw [e]
    generalize tld back (W % 16777216) (P / 4 + 2) 16777216 = T at *
    unfold rArm
    rw [if_pos (by omega), show (3942645760 + T) % 16777216 = T by omega, hb]
    omega
  · have e : rArm back W P = W := by unfold rArm; rw [if_neg h]
    rw [e]; unfold rArm; rw [if_neg h]
theorem rSparc_back (back : Bool) (W P : Nat) (hW : W < 4294967296) : rSparc (!back) (rSparc back W P) P = W := by
  by_cases h : W / 4194304 = 256 ∨ W / 4194304 = 511
  · have hl := tld_lt back (W % 8388608) (P / 4) 8388608 (by omega)
    have hb := tld_back back (W % 8388608) (P / 4) 8388608 (by omega)
    have e : rSparc back W P = 1073741824 + sgn (tld back (W % 8388608) (P / 4) 8388608) 8388608 1073741824 := by unfold rSparc; rw [if_pos h]
    rw [e]
    generalize tld back (W % 8388608) (P / 4) 8388608 = T at *
    have hs : sgn T 8388608 1073741824 = if T ≥ 4194304 then T + 1065353216 else T := by unfold sgn; split <;> simp
    have h2 : (1073741824 + sgn T 8388608 1073741824) / 4194304 = 256 ∨ (1073741824 + sgn T 8388608 1073741824) / 4194304 = 511 := by
      rw [hs]; split <;> omega
    have h3 : (1073741824 + sgn T 8388608 1073741824) % 8388608 = T := by rw [hs]; split <;> omega
    unfold rSparc
    rw [if_pos h2, h3, hb]
    unfold sgn
    split <;> omega
  · have e : rSparc back W P = W := by unfold rSparc; rw [if_neg h]
    rw [e]; unfold rSparc; rw [if_neg h]
theorem page_parts (W U : Nat) (hU : U < 2097152) : rPageOf W U / 67108864 ≠ 37 ∧ rPageOf W U / 2147483648 = 1 ∧ rPageOf W U / 16777216 % 32 = 16 ∧ pageNo (rPageOf W U) = U ∧ rPageOf W U % 32 = W % 32 := by
  unfold rPageOf pageNo
  obtain ⟨a, b, hb, rfl⟩ : ∃ a b, b < 4 ∧ U = 4 * a + b := ⟨U / 4, U % 4, by omega, by omega⟩
  have hr : W % 32 < 32 := by omega
  have e1 : (4 * a + b) % 4 = b := by omega
  have e2 : (4 * a + b) / 4 = a := by omega
  rw [e1, e2]
  have ha : a < 524288 := by omega
  generalize W % 32 = r at *
  clear e1 e2 hU
  have : b = 0 ∨ b = 1 ∨ b = 2 ∨ b = 3 := by omega
  rcases this with rfl | rfl | rfl | rfl <;> refine ⟨by omega, by omega, by omega, by omega, by omega⟩
theorem page_whole (W : Nat) (h1 : W / 2147483648 = 1) (h2 : W / 16777216 % 32 = 16) : rPageOf W (pageNo W) = W := by
  unfold rPageOf pageNo
  have e1 : (W / 32 % 524288 * 4 + W / 536870912 % 4) % 4 = W / 536870912 % 4 := by omega
  have e2 : (W / 32 % 524288 * 4 + W / 536870912 % 4) / 4 = W / 32 % 524288 := by omega
  rw [e1, e2]
  clear e1 e2
  have e3 : W / 32 / 524288 = W / 16777216 := by rw [Nat.div_div_eq_div_mul]
  have e4 : W / 536870912 = W / 16777216 / 32 := by rw [Nat.div_div_eq_div_mul]
  have e5 : W / 2147483648 = W / 16777216 / 32 / 4 := by rw [Nat.div_div_eq_div_mul, Nat.div_div_eq_div_mul]
  rw [e5] at h1
  rw [e4]
  generalize W / 16777216 = X at *
  clear e4 e5
  omega
theorem rArm64_back (back : Bool) (W P : Nat) : rArm64 (!back) (rArm64 back W P) P = W := by
  by_cases h : W / 67108864 = 37
  · have hl := tld_lt back (W % 67108864) (P / 4) 67108864 (by omega)
    have hb := tld_back back (W % 67108864) (P / 4) 67108864 (by omega)
    have e : rArm64 back W P = 2483027968 + tld back (W % 67108864) (P / 4) 67108864 := by unfold rArm64; rw [if_pos h]
    rw [e]
    generalize tld back (W % 67108864) (P / 4) 67108864 = T at *
    unfold rArm64
    rw [if_pos (by omega), show (2483027968 + T) % 67108864 = T by omega, hb]
    omega
  · by_cases hc : (W / 2147483648 = 1 ∧ W / 16777216 % 32 = 16) ∧ (pageNo W + 131072) % 2097152 < 262144
    · have hN : pageNo W < 2097152 := by unfold pageNo; omega
      have hl := tld_lt back (pageNo W % 262144) (P / 4096) 262144 (by omega)
      have hb := tld_back back (pageNo W % 262144) (P / 4096) 262144 (by omega)
      have e : rArm64 back W P = rPageOf W (sgn (tld back (pageNo W % 262144) (P / 4096) 262144) 262144 2097152) := by unfold rArm64; rw [if_neg h, if_pos hc]
      rw [e]
      generalize tld back (pageNo W % 262144) (P / 4096) 262144 = T at *
      have hs1 : sgn T 262144 2097152 % 262144 = T := by unfold sgn; split <;> omega
      have hs2 : (sgn T 262144 2097152 + 131072) % 2097152 < 262144 := by unfold sgn; split <;> omega
      have hs3 := sgn_lt T 262144 2097152 hl (by omega)
      generalize sgn T 262144 2097152 = U at *
      obtain ⟨q1, q2, q3, q4, q5⟩ := page_parts W U hs3
      generalize rPageOf W U = V at *
      unfold rArm64
      rw [q4, if_neg q1, if_pos ⟨⟨q2, q3⟩, hs2⟩, hs1, hb]
      have hsg : sgn (pageNo W % 262144) 262144 2097152 = pageNo W := by
        have := hc.2
        unfold sgn; split <;> omega
      rw [hsg]
      have hw := page_whole W hc.1.1 hc.1.2
      unfold rPageOf at hw ⊢
      rw [q5]
      exact hw
    · have e : rArm64 back W P = W := by unfold rArm64; rw [if_neg h, if_neg hc]
      rw [e]; unfold rArm64; rw [if_neg h, if_neg hc]
end Go.Proofs.Ytflklbnebljnmaa
