/- The model's states; its context. -/
import Derived.Test.YtklkboplkobhgaaGreatMdTreeL
namespace Go.Proofs.YtklkboplkobhgaaGreat
set_option maxRecDepth 100000
open Go.RowKit

def litState (st : Nat) : Nat := if st < 4 then 0 else if st < 10 then st - 3 else st - 6
def ctxN (lc lp : Nat) (H : List UInt8) : Nat := H.length % 2 ^ lp * 2 ^ lc + (if 0 < H.length then (H.getD (H.length - 1) 0).toNat else 0) / 2 ^ (8 - lc)
theorem ctxN_lt {lc lp : Nat} (H : List UInt8) (hlc : lc ≤ 8) : ctxN lc lp H < 2 ^ (lc + lp) := by
  unfold ctxN
  have h1 : H.length % 2 ^ lp < 2 ^ lp := Nat.mod_lt _ (Nat.pow_pos (by decide))
  have h2 : (if 0 < H.length then (H.getD (H.length - 1) 0).toNat else 0) / 2 ^ (8 - lc) < 2 ^ lc := by
    rw [Nat.div_lt_iff_lt_mul (Nat.pow_pos (by decide)), ← Nat.pow_add, show lc + (8 - lc) = 8 by omega]
    split
    · exact (H.getD (H.length - 1) 0).toNat_lt
    · decide
  have h3 : (H.length % 2 ^ lp + 1) * 2 ^ lc ≤ 2 ^ lp * 2 ^ lc := Nat.mul_le_mul_right _ h1
  rw [Nat.pow_add, Nat.mul_comm (2 ^ lc)]
  rw [Nat.add_mul] at h3
  omega
set_option maxHeartbeats 400000 in
theorem litState_any (st : Nat) (_ : st < 12) (w : World) : Calls Tryz.prog 89 #[.int .i64 (st : Nat)] w fun e w' => e = .returned (.int .i64 (litState st : Nat)) ∧ w = w' := by
  obtain ⟨S, hS⟩ : ∃ S, litState st = S := ⟨_, rfl⟩
  rw [hS]
  unfold litState at hS
  by_cases h1 : st < 4
  · rw [if_pos h1] at hS
    subst hS
    have h1i : (st : Int) < 4 := by omega
    go_enter Tryz.func89, Tryz.ntmps89
    go_wp2_with fail
    go_ret
    exact ⟨rfl, rfl⟩
  · have h1i : ¬ (st : Int) < 4 := by omega
    rw [if_neg h1] at hS
    by_cases h2 : st < 10
    · have h2i : (st : Int) < 10 := by omega
      rw [if_pos h2] at hS
      have HS := Lib.hid hS
      clear hS
      go_enter Tryz.func89, Tryz.ntmps89
      go_wp2_with fail
      go_ret
      have := HS.out
      exact ⟨by go_num, rfl⟩
    · have h2i : ¬ (st : Int) < 10 := by omega
      rw [if_neg h2] at hS
      have HS := Lib.hid hS
      clear hS
      go_enter Tryz.func89, Tryz.ntmps89
      go_wp2_with fail
      go_ret
      have := HS.out
      exact ⟨by go_num, rfl⟩
set_option maxHeartbeats 400000 in
theorem after2_any (st a b : Nat) (w : World) : Calls Tryz.prog 93 #[.int .i64 (st : Nat), .int .i64 (a : Nat), .int .i64 (b : Nat)] w fun e w' => e = .returned (.int .i64 ((if st < 7 then a else b : Nat) : Int)) ∧ w = w' := by
  by_cases h1 : st < 7
  · have h1i : (st : Int) < 7 := by omega
    rw [if_pos h1]
    go_enter Tryz.func93, Tryz.ntmps93
    go_wp2_with fail
    go_ret
    exact ⟨rfl, rfl⟩
  · have h1i : ¬ (st : Int) < 7 := by omega
    rw [if_neg h1]
    go_enter Tryz.func93, Tryz.ntmps93
    go_wp2_with fail
    go_ret
    exact ⟨rfl, rfl⟩
def Tells (v : Value) (w : World) (e : Ending) (w' : World) : Prop := e = .returned v ∧ Below w.heap.size w w'
theorem wrap64_of {a : Int} (h0 : -9223372036854775808 ≤ a) (h1 : a ≤ 9223372036854775807) : wrap64 a = a := by unfold wrap64; omega
theorem ctx_num {n lc lp u K : Nat} (hlc : lc ≤ 4) (hlp : lp ≤ 4) (hu : u < 256) (hK : n % 2 ^ lp * 2 ^ lc + u / 2 ^ (8 - lc) = K) : wrap64 (wrap64 (bits .and .i64 (n : Int) (wrap64 (wrap64 (2 ^ lp) - 1)) * 2 ^ lc) + (u : Int) / 2 ^ (8 - lc)) = (K : Int) := by
  have h1 : 1 ≤ 2 ^ lp := Nat.one_le_two_pow
  have h2 : 2 ^ lp ≤ 2 ^ 4 := Nat.pow_le_pow_right (by omega) hlp
  have h3 : 2 ^ lc ≤ 2 ^ 4 := Nat.pow_le_pow_right (by omega) hlc
  have e1 : wrap64 ((2 : Int) ^ lp) = ((2 ^ lp : Nat) : Int) := by rw [show (2 : Int) ^ lp = ((2 ^ lp : Nat) : Int) by simp]; exact wrap64_of (by omega) (by omega)
  have e2 : wrap64 (((2 ^ lp : Nat) : Int) - 1) = ((2 ^ lp - 1 : Nat) : Int) := by rw [wrap64_of (by omega) (by omega)]; omega
  have e3 : (n : Int) % ((2 ^ lp : Nat) : Int) = ((n % 2 ^ lp : Nat) : Int) := by omega
  have h4 : n % 2 ^ lp < 2 ^ lp := Nat.mod_lt _ h1
  have h5 : n % 2 ^ lp * 2 ^ lc ≤ 16 * 16 := Nat.mul_le_mul (by omega) (by omega)
  have e4 : ((n % 2 ^ lp : Nat) : Int) * 2 ^ lc = ((n % 2 ^ lp * 2 ^ lc : Nat) : Int) := by simp
  have e5 : (u : Int) / 2 ^ (8 - lc) = ((u / 2 ^ (8 - lc) : Nat) : Int) := by simp
  have h6 : u / 2 ^ (8 - lc) ≤ u := Nat.div_le_self _ _
  rw [e1, e2, i64_and_low _ _ (by omega), e3, e4, e5]
  generalize n % 2 ^ lp * 2 ^ lc = N at *
  generalize u / 2 ^ (8 - lc) = U at *
  rw [wrap64_of (a := (N : Int)) (by omega) (by omega), wrap64_of (by omega) (by omega)]
  omega
set_option maxRecDepth 100000 in
set_option maxHeartbeats 1000000 in
theorem ctx_any {C L lc lp pb st : Nat} {r : R4} {P : Nat → Nat} {w : World} (hM : ModAt w C L lc lp pb st r P) (hlc : lc ≤ 4) (hlp : lp ≤ 4) (A : Option Addr) (H : List UInt8) (c : Nat) (hB : Bytes w A H) (hc : H.length ≤ c) (hH : H.length ≤ 1000000000) :
    Calls Tryz.prog 88 #[PF C, .slice A H.length c] w (Tells (.int .i64 (ctxN lc lp H : Nat)) w) := by
  obtain ⟨c0, c1, _⟩ := hM.cells
  obtain ⟨K, hK⟩ : ∃ K, ctxN lc lp H = K := ⟨_, rfl⟩
  rw [hK]
  unfold ctxN at hK
  have hci : (H.length : Int) ≤ (c : Int) := by omega
  have hHi : (H.length : Int) ≤ 1000000000 := by omega
  by_cases h0 : 0 < H.length
  · have h0i : (0 : Int) < (H.length : Int) := by omega
    rw [if_pos h0] at hK
    obtain ⟨b, off, rfl, _, hat⟩ := hB.addr h0
    have cx := hat (H.length - 1) (by omega)
    rw [← getD_of] at cx
    generalize H.getD (H.length - 1) 0 = u at *
    obtain ⟨y, hy⟩ : ∃ y, H.length - 1 = y := ⟨_, rfl⟩
    rw [hy] at cx
    have hyi : (H.length : Int) - 1 = (y : Int) := by omega
    have hyl : (y : Int) < (H.length : Int) := by omega
    have HK := Lib.hid hK
    clear hK hat hB hy
    go_enter Tryz.func88, Tryz.ntmps88
    go_wp2_with fail
    go_quiet (fail)
    go_wp2_with fail
    go_ret
    have e := ctx_num hlc hlp (u := u.toNat) u.toNat_lt HK.out
    have e0 : wrap64 ((u.toNat : Nat) : Int) = ((u.toNat : Nat) : Int) := wrap64_of (by omega) (by have := u.toNat_lt; omega)
    refine ⟨?_, below_drewN (Below.refl _ _) _⟩
    show Ending.returned (Value.int .i64 _) = _
    rw [e0, e]
  · have h0i : ¬ (0 : Int) < (H.length : Int) := by omega
    rw [if_neg h0] at hK
    have HK := Lib.hid hK
    clear hK hB
    go_enter Tryz.func88, Tryz.ntmps88
    go_wp2_with fail
    go_quiet (fail)
    go_wp2_with fail
    go_ret
    have e := ctx_num hlc hlp (u := 0) (by decide) HK.out
    rw [show (((0 : Nat) : Nat) : Int) / 2 ^ (8 - lc) = 0 by simp, Int.add_zero] at e
    refine ⟨?_, below_drewN (Below.refl _ _) _⟩
    show Ending.returned (Value.int .i64 _) = _
    exact congrArg (fun n : Int => Ending.returned (Value.int .i64 n)) e
end Go.Proofs.YtklkboplkobhgaaGreat
