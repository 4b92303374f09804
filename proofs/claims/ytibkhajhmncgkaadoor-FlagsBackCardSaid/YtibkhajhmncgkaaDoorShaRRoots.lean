/- The walks over the reference's roots. -/
import Derived.Test.YtibkhajhmncgkaaDoorShaRMath
namespace Go.Proofs.YtibkhajhmncgkaaDoor
open Go.RowKit

theorem mul_split (a0 a1 b0 b1 p q r s : Int) (hp : a0 * b0 = p) (hq : a1 * b0 = q) (hr : a0 * b1 = r) (hs : a1 * b1 = s) : (a1 * 4294967296 + a0) * (b1 * 4294967296 + b0) = s * 18446744073709551616 + (q + r) * 4294967296 + p := by
  subst hp hq hr hs
  rw [Int.add_mul, Int.mul_add, Int.mul_add]
  have e1 : a1 * 4294967296 * (b1 * 4294967296) = a1 * b1 * 18446744073709551616 := by
    rw [Int.mul_assoc, Int.mul_left_comm 4294967296 b1, ← Int.mul_assoc]; rfl
  have e2 : a1 * 4294967296 * b0 = a1 * b0 * 4294967296 := by rw [Int.mul_assoc, Int.mul_comm 4294967296 b0, ← Int.mul_assoc]
  have e3 : a0 * (b1 * 4294967296) = a0 * b1 * 4294967296 := by rw [← Int.mul_assoc]
  rw [e1, e2, e3, Int.add_mul]; omega
theorem prod_bd (a b : Int) (ha : 0 ≤ a) (ha2 : a < 4294967296) (hb : 0 ≤ b) (hb2 : b < 4294967296) : 0 ≤ a * b ∧ a * b ≤ 18446744065119617025 := by
  refine ⟨Int.mul_nonneg ha hb, ?_⟩
  have h1 : a * b ≤ 4294967295 * b := Int.mul_le_mul_of_nonneg_right (by omega) hb
  omega
theorem ret2_int {k k' : IntKind} {a b a' b' : Int} (h1 : a = a') (h2 : b = b') : Ending.returned (.tuple #[.int k a, .int k' b]) = .returned (.tuple #[.int k a', .int k' b']) := by rw [h1, h2]
theorem ret1_int {k : IntKind} {a a' : Int} (h1 : a = a') : Ending.returned (.int k a) = .returned (.int k a') := by rw [h1]
set_option maxRecDepth 100000 in
set_option maxHeartbeats 1000000 in
theorem mul_any (a b : Int) (ha : 0 ≤ a) (ha2 : a < 18446744073709551616) (hb : 0 ≤ b) (hb2 : b < 18446744073709551616) (w : World) :
    Calls Tryd.prog 62 #[.int .u64 a, .int .u64 b] w fun e w' => e = .returned (.tuple #[.int .u64 (mulHi a b), .int .u64 (mulLo a b)]) ∧ w = w' := by
  obtain ⟨a0, h1⟩ : ∃ x, a % 4294967296 = x := ⟨_, rfl⟩
  obtain ⟨a1, h2⟩ : ∃ x, a / 4294967296 = x := ⟨_, rfl⟩
  obtain ⟨b0, h3⟩ : ∃ x, b % 4294967296 = x := ⟨_, rfl⟩
  obtain ⟨b1, h4⟩ : ∃ x, b / 4294967296 = x := ⟨_, rfl⟩
  have d1 : 0 ≤ a0 ∧ a0 < 4294967296 := by omega
  have d2 : 0 ≤ a1 ∧ a1 < 4294967296 := by omega
  have d3 : 0 ≤ b0 ∧ b0 < 4294967296 := by omega
  have d4 : 0 ≤ b1 ∧ b1 < 4294967296 := by omega
  have ep := prod_bd a0 b0 d1.1 d1.2 d3.1 d3.2
  have eq := prod_bd a1 b0 d2.1 d2.2 d3.1 d3.2
  have er := prod_bd a0 b1 d1.1 d1.2 d4.1 d4.2
  have es := prod_bd a1 b1 d2.1 d2.2 d4.1 d4.2
  obtain ⟨p, hp⟩ : ∃ x, a0 * b0 = x := ⟨_, rfl⟩
  obtain ⟨q, hq⟩ : ∃ x, a1 * b0 = x := ⟨_, rfl⟩
  obtain ⟨r, hr⟩ : ∃ x, a0 * b1 = x := ⟨_, rfl⟩
  obtain ⟨s, hs⟩ : ∃ x, a1 * b1 = x := ⟨_, rfl⟩
  have hm := mul_split a0 a1 b0 b1 p q r s hp hq hr hs
  rw [hp] at ep; rw [hq] at eq; rw [hr] at er; rw [hs] at es
  have ea : a1 * 4294967296 + a0 = a := by omega
  have eb : b1 * 4294967296 + b0 = b := by omega
  rw [ea, eb] at hm
  have hhi : mulHi a b = s + q / 4294967296 + r / 4294967296 + (p / 4294967296 + q % 4294967296 + r % 4294967296) / 4294967296 := by unfold mulHi; rw [hm]; omega
  have hlo : mulLo a b = (p / 4294967296 + q % 4294967296 + r % 4294967296) % 4294967296 * 4294967296 + p % 4294967296 := by unfold mulLo; rw [hm]; omega
  rw [hhi, hlo]
  obtain ⟨p0, p1⟩ := ep
  obtain ⟨q0, q1⟩ := eq
  obtain ⟨r0, r1⟩ := er
  obtain ⟨s0, s1⟩ := es
  clear hm ea eb hhi hlo d1 d2 d3 d4
  go_enter Tryd.func62, Tryd.ntmps62
  go_wp2
  go_ret2
  exact ⟨ret2_int (by omega) (by omega), rfl⟩

set_option maxRecDepth 100000 in
set_option maxHeartbeats 1000000 in
theorem square_any (n : Int) (hn : 0 ≤ n) (hn2 : n < 18446744073709551616) (w : World) : Calls Tryd.prog 54 #[.int .u64 n] w fun e w' => e = .returned (.int .u32 (sq n 37 % 4294967296)) ∧ w = w' := by
  go_enter Tryd.func54, Tryd.ntmps54
  go_wp2_with fail
  go_loop [3, 4] (fun x b => ∃ k : Nat, k ≤ 37 ∧ x = .int .u64 (sq n k) ∧ b = .int .u64 (bitAt 36 k)) (fun _ b => (intOf b).toNat)
  case atStart => exact ⟨0, by omega, rfl, rfl⟩
  case round =>
    obtain ⟨k, hk, rfl, rfl⟩ := hrel
    obtain ⟨x0, x1⟩ := sq_bd n k hk
    by_cases hlt : k < 37
    · have hb : bitAt 36 k = 2 ^ (36 - k) := by unfold bitAt; rw [if_pos (by omega)]
      have hpos := pow_pos (36 - k)
      rw [pow_half 37 k hlt, show 37 - (k + 1) = 36 - k by omega] at x1
      have hS : sq n (k + 1) = if mulHi (sq n k + 2 ^ (36 - k)) (sq n k + 2 ^ (36 - k)) < n then sq n k + 2 ^ (36 - k) else sq n k := rfl
      have hnx := bitAt_half 36 k (by omega)
      have hlt2 : bitAt 36 (k + 1) < bitAt 36 k := by rw [← hnx, hb]; omega
      rw [hb] at hnx hlt2 ⊢
      generalize (2 : Int) ^ (36 - k) = B at *
      obtain ⟨B2, hB2⟩ : ∃ x, bitAt 36 (k + 1) = x := ⟨_, rfl⟩
      rw [hB2] at hnx hlt2
      have HB2 := Lib.hid hB2
      clear hB2
      have x2 : sq n k + 2 * B ≤ 137438953472 := by simpa using x1
      clear x1 hb
      generalize sq n k = x at *
      have hh := mulHi_bd (x + B) (x + B) (by omega) (by omega) (by omega)
      have hl := mulLo_bd (x + B) (x + B)
      have HM := Lib.hid (fun w => mul_any (x + B) (x + B) (by omega) (by omega) (by omega) (by omega) w)
      have HS := Lib.hid hS
      have HNX := Lib.hid hnx
      clear hS hnx
      generalize mulHi (x + B) (x + B) = hi at *
      generalize mulLo (x + B) (x + B) = lo at *
      obtain ⟨hh0, hh1⟩ := hh
      obtain ⟨hl0, hl1⟩ := hl
      have hB2 : B / 2 = B2 := HNX.out
      by_cases hc : hi < n
      · clear hB2
        go_wp2_with ((with_reducible refine (HM.out _).mono ?_); rintro e w' ⟨rfl, rfl⟩)
        go_round
        case rel => exact ⟨k + 1, by omega, by rw [HS.out, if_pos hc], by first | (rw [HB2.out]; done) | rw [HB2.out, HNX.out]⟩
        case measure => simp [intOf]; omega
      · clear hB2
        go_wp2_with ((with_reducible refine (HM.out _).mono ?_); rintro e w' ⟨rfl, rfl⟩)
        go_round
        case rel => exact ⟨k + 1, by omega, by rw [HS.out, if_neg (by omega)], by first | (rw [HB2.out]; done) | rw [HB2.out, HNX.out]⟩
        case measure => simp [intOf]; omega
    · obtain rfl : k = 37 := by omega
      have hb : bitAt 36 37 = 0 := rfl
      rw [hb]
      simp only [Nat.sub_self] at x1
      have x2 : sq n 37 < 137438953472 := by have : (2 : Int) ^ 37 = 137438953472 := by decide
                                             have : (2 : Int) ^ 0 = 1 := by decide
                                             omega
      clear x1
      generalize hx : sq n 37 = x at *
      have HX := Lib.hid hx
      clear hx
      go_wp2_with fail
      go_ret
      exact ⟨ret1_int (by rw [HX.out]), rfl⟩

set_option maxRecDepth 100000 in
set_option maxHeartbeats 2000000 in
theorem cube_any (n : Int) (w : World) : Calls Tryd.prog 55 #[.int .u64 n] w fun e w' => e = .returned (.int .u32 (cb n 36 % 4294967296)) ∧ w = w' := by
  go_enter Tryd.func55, Tryd.ntmps55
  go_wp2_with fail
  go_loop [3, 4] (fun x b => ∃ k : Nat, k ≤ 36 ∧ x = .int .u64 (cb n k) ∧ b = .int .u64 (bitAt 35 k)) (fun _ b => (intOf b).toNat)
  case atStart => exact ⟨0, by omega, rfl, rfl⟩
  case round =>
    obtain ⟨k, hk, rfl, rfl⟩ := hrel
    obtain ⟨x0, x1⟩ := cb_bd n k hk
    by_cases hlt : k < 36
    · have hb : bitAt 35 k = 2 ^ (35 - k) := by unfold bitAt; rw [if_pos (by omega)]
      have hpos := pow_pos (35 - k)
      rw [pow_half 36 k hlt, show 36 - (k + 1) = 35 - k by omega] at x1
      have hS : cb n (k + 1) = if cbHigh (cb n k + 2 ^ (35 - k)) = 0 ∧ cbSum (cb n k + 2 ^ (35 - k)) / 4294967296 < n then cb n k + 2 ^ (35 - k) else cb n k := rfl
      have hnx := bitAt_half 35 k (by omega)
      have hlt2 : bitAt 35 (k + 1) < bitAt 35 k := by rw [← hnx, hb]; omega
      rw [hb] at hnx hlt2 ⊢
      generalize (2 : Int) ^ (35 - k) = B at *
      obtain ⟨B2, hB2⟩ : ∃ x, bitAt 35 (k + 1) = x := ⟨_, rfl⟩
      rw [hB2] at hnx hlt2
      have HB2 := Lib.hid hB2
      clear hB2
      have x2 : cb n k + 2 * B ≤ 68719476736 := by simpa using x1
      clear x1 hb
      generalize cb n k = x at *
      have hH : cbHigh (x + B) = if cbSum (x + B) < mulLo (mulHi (x + B) (x + B)) (x + B) then mulHi (mulHi (x + B) (x + B)) (x + B) + 1 else mulHi (mulHi (x + B) (x + B)) (x + B) := rfl
      have hU : cbSum (x + B) = (mulLo (mulHi (x + B) (x + B)) (x + B) + mulHi (mulLo (x + B) (x + B)) (x + B)) % 18446744073709551616 := rfl
      have h1 := mulHi_bd (x + B) (x + B) (by omega) (by omega) (by omega)
      have h2 := mulLo_bd (x + B) (x + B)
      have HM1 := Lib.hid (fun w => mul_any (x + B) (x + B) (by omega) (by omega) (by omega) (by omega) w)
      generalize mulHi (x + B) (x + B) = hi at *
      generalize mulLo (x + B) (x + B) = lo at *
      have h3 := mulHi_bd hi (x + B) (by omega) (by omega) (by omega)
      have h4 := mulLo_bd hi (x + B)
      have HM2 := Lib.hid (fun w => mul_any hi (x + B) (by omega) (by omega) (by omega) (by omega) w)
      have h5 := mulHi_bd lo (x + B) (by omega) (by omega) (by omega)
      have h6 := mulLo_bd lo (x + B)
      have HM3 := Lib.hid (fun w => mul_any lo (x + B) (by omega) (by omega) (by omega) (by omega) w)
      generalize mulHi hi (x + B) = a at *
      generalize mulLo hi (x + B) = b at *
      generalize mulHi lo (x + B) = c at *
      generalize mulLo lo (x + B) = c' at *
      generalize cbHigh (x + B) = hg at *
      obtain ⟨u, hu⟩ : ∃ u, cbSum (x + B) = u := ⟨_, rfl⟩
      rw [hu] at hS hH hU
      have hub : 0 ≤ u ∧ u < 18446744073709551616 := by omega
      obtain ⟨h1a, h1b⟩ := h1
      obtain ⟨h2a, h2b⟩ := h2
      obtain ⟨h3a, h3b⟩ := h3
      obtain ⟨h4a, h4b⟩ := h4
      obtain ⟨h5a, h5b⟩ := h5
      obtain ⟨h6a, h6b⟩ := h6
      obtain ⟨u0, u1⟩ := hub
      have HS := Lib.hid hS
      have HNX := Lib.hid hnx
      have HH := Lib.hid hH
      have HU := Lib.hid hU
      clear hS hnx hH hU hu
      have hd : hg = a ∨ hg = a + 1 := by have := HH.out; split at this <;> omega
      have hu : IntKind.u64.wrap (b + c) = u := by rw [IntKind.wrap_u64]; exact HU.out.symm
      have hB2 : B / 2 = B2 := HNX.out
      by_cases hc : u < b
      · have hga : hg = a + 1 := by rw [HH.out, if_pos hc]
        have hno : ¬ (hg = 0 ∧ u / 4294967296 < n) := by omega
        have HR : Hid (cb n (k + 1) = x) := Lib.hid (by rw [HS.out, if_neg hno])
        have ha0 : a + 1 ≠ 0 := by omega
        have ha1 : (a + 1 == 0) = false := by simpa using ha0
        have ha2 : a ≠ -1 := by omega
        have ha3 : (a == -1) = false := by simpa using ha2
        clear hd hga hno
        go_wp2_with (first | ((with_reducible refine (HM1.out _).mono ?_); rintro e w' ⟨rfl, rfl⟩) | ((with_reducible refine (HM2.out _).mono ?_); rintro e w' ⟨rfl, rfl⟩) | ((with_reducible refine (HM3.out _).mono ?_); rintro e w' ⟨rfl, rfl⟩))
        go_round
        case rel => exact ⟨k + 1, by omega, by rw [HR.out], by first | (rw [HB2.out]; done) | rw [HB2.out, HNX.out]⟩
        case measure => simp [intOf]; omega
      · have hga : hg = a := by rw [HH.out, if_neg hc]
        by_cases ha : a = 0
        · by_cases hq : u / 4294967296 < n
          · have HR : Hid (cb n (k + 1) = x + B) := Lib.hid (by rw [HS.out, if_pos (by omega)])
            clear hd hga
            subst ha
            go_wp2_with (first | ((with_reducible refine (HM1.out _).mono ?_); rintro e w' ⟨rfl, rfl⟩) | ((with_reducible refine (HM2.out _).mono ?_); rintro e w' ⟨rfl, rfl⟩) | ((with_reducible refine (HM3.out _).mono ?_); rintro e w' ⟨rfl, rfl⟩))
            go_round
            case rel => exact ⟨k + 1, by omega, by rw [HR.out], by first | (rw [HB2.out]; done) | rw [HB2.out, HNX.out]⟩
            case measure => simp [intOf]; omega
          · have HR : Hid (cb n (k + 1) = x) := Lib.hid (by rw [HS.out, if_neg (by omega)])
            clear hd hga
            subst ha
            go_wp2_with (first | ((with_reducible refine (HM1.out _).mono ?_); rintro e w' ⟨rfl, rfl⟩) | ((with_reducible refine (HM2.out _).mono ?_); rintro e w' ⟨rfl, rfl⟩) | ((with_reducible refine (HM3.out _).mono ?_); rintro e w' ⟨rfl, rfl⟩))
            go_round
            case rel => exact ⟨k + 1, by omega, by rw [HR.out], by first | (rw [HB2.out]; done) | rw [HB2.out, HNX.out]⟩
            case measure => simp [intOf]; omega
        · have HR : Hid (cb n (k + 1) = x) := Lib.hid (by rw [HS.out, if_neg (by omega)])
          have ha1 : (a == 0) = false := by simpa using ha
          clear hd hga
          go_wp2_with (first | ((with_reducible refine (HM1.out _).mono ?_); rintro e w' ⟨rfl, rfl⟩) | ((with_reducible refine (HM2.out _).mono ?_); rintro e w' ⟨rfl, rfl⟩) | ((with_reducible refine (HM3.out _).mono ?_); rintro e w' ⟨rfl, rfl⟩))
          go_round
          case rel => exact ⟨k + 1, by omega, by rw [HR.out], by first | (rw [HB2.out]; done) | rw [HB2.out, HNX.out]⟩
          case measure => simp [intOf]; omega
    · obtain rfl : k = 36 := by omega
      have hb : bitAt 35 36 = 0 := rfl
      rw [hb]
      simp only [Nat.sub_self] at x1
      have x2 : cb n 36 < 68719476736 := by have : (2 : Int) ^ 36 = 68719476736 := by decide
                                            have : (2 : Int) ^ 0 = 1 := by decide
                                            omega
      clear x1
      generalize hx : cb n 36 = x at *
      have HX := Lib.hid hx
      clear hx
      go_wp2_with fail
      go_ret
      exact ⟨ret1_int (by rw [HX.out]), rfl⟩
end Go.Proofs.YtibkhajhmncgkaaDoor
