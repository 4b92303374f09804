/- The contract of the law DeltaRows. -/
import Derived.Test.YtonpdnagoapjoaaDeltaLaws
namespace Go.Proofs.Ytonpdnagoapjoaa
open Go.RowKit

/-- A row, k times. -/
def rep (l : List UInt8) : Nat → List UInt8
  | 0 => []
  | k + 1 => rep l k ++ l
theorem rep_succ (l : List UInt8) (k : Nat) : rep l (k + 1) = rep l k ++ l := rfl
theorem rep_length (l : List UInt8) (k : Nat) : (rep l k).length = k * l.length := by
  induction k with
  | zero => simp [rep]
  | succ k ih => rw [rep_succ, List.length_append, ih, Nat.succ_mul]
theorem rep_at (l : List UInt8) (k i : Nat) (h : i < k * l.length) : Delta.at_ (rep l k) i = Delta.at_ l (i % l.length) := by
  induction k with
  | zero => simp at h
  | succ k ih =>
    rw [rep_succ]
    by_cases hi : i < k * l.length
    · rw [Delta.at_append_left _ _ _ (by rw [rep_length]; exact hi), ih hi]
    · have hl : i - k * l.length < l.length := by rw [Nat.succ_mul] at h; omega
      have e : i % l.length = i - k * l.length := by
        have h1 : i = (i - k * l.length) + l.length * k := by rw [Nat.mul_comm l.length k]; omega
        conv => lhs; rw [h1]
        rw [Nat.add_mul_mod_self_left, Nat.mod_eq_of_lt hl]
      rw [e]
      simp [Delta.at_, List.getD, List.getElem?_append_right (show (rep l k).length ≤ i by rw [rep_length]; omega), rep_length]
theorem enc_rep_zero (l : List UInt8) (k i : Nat) (h0 : 0 < l.length) (h1 : l.length ≤ i) (h2 : i < (rep l k).length) : Delta.at_ (Delta.enc (rep l k) l.length) i = 0 := by
  rw [Delta.enc_at _ _ _ h2, back_yes _ _ _ h1]
  rw [rep_length] at h2
  rw [rep_at _ _ _ h2, rep_at _ _ _ (by omega), ← Nat.mod_eq_sub_mod h1, UInt8.sub_self]

set_option maxRecDepth 100000 in
set_option maxHeartbeats 1000000 in
theorem rows_law (A : Option Addr) (l : List UInt8) (c : Nat) (t : BitVec 8) (w : World) (hB : Bytes w A l) (_hc : l.length ≤ c) (_hm : c ≤ 9223372036854775807) :
    Calls Try.prog 4 #[.slice A l.length c, .int .u8 t.toNat] w (Holds w) := by
  by_cases h1 : l.length < 1
  · have h1' : (l.length : Int) < 1 := by omega
    go_enter Try.func4, Try.ntmps4
    go_wp2_with fail
    refine (knows_any _).mono ?_
    rintro e w' ⟨rfl, hb⟩
    go_wp2_with fail
    go_ret
    exact ⟨rfl, hb⟩
  by_cases h2 : 256 < l.length
  · have h2' : (256 : Int) < l.length := by omega
    have h1' : ¬ (l.length : Int) < 1 := by omega
    go_enter Try.func4, Try.ntmps4
    go_wp2_with fail
    refine (knows_any _).mono ?_
    rintro e w' ⟨rfl, hb⟩
    go_wp2_with fail
    go_ret
    exact ⟨rfl, hb⟩
  have g1 : decide ((l.length : Int) < 1) = false := by simp; omega
  have g2 : decide ((256 : Int) < l.length) = false := by simp; omega
  have ht := t.isLt
  go_enter Try.func4, Try.ntmps4
  go_wp2_with fail
  go_loopw [5, 6] (fun v i wr => ∃ k : Nat, k ≤ t.toNat % 5 ∧ i = .int .i64 k ∧ Own w.heap.size wr v (rep l k) ∧ Below w.heap.size w wr) (fun _ i _ => t.toNat % 5 - (intOf i).toNat)
  case atStart => exact ⟨0, by omega, rfl, Own.nil _ _, Below.refl _ _⟩
  case round =>
    obtain ⟨k, hk, rfl, ho, hb⟩ := hrel
    have hrl := rep_length l k
    have hkl : k * l.length ≤ 4 * 256 := Nat.mul_le_mul (by omega) (by omega)
    by_cases hlt : k < t.toNat % 5
    · have hfit : (rep l k).length + l.length ≤ 140737488355328 := by omega
      have hsucc := Lib.hid (rep_succ l k)
      clear hrl
      go_wp2_with (at_builtin; refine wpList_append_bytes rfl (.tmp 26) (.tmp 27) rfl w.heap.size _ _ _ rfl ho A l c rfl (hB.below hb) hfit hb.size ?_; intro v2 w2 ho2 hg2; have hb2 := below_grown hb hg2 hb.size (fun g hg => (ho.from_base g hg).1))
      go_roundw
      case rel => exact ⟨k + 1, by omega, by go_num, by rw [hsucc.out]; exact ho2, hb2⟩
      case measure => simp [intOf]; omega
    · obtain ⟨Aa, ca, rfl, hca, hma, hBa⟩ := ho.read
      have hz := Lib.hid (enc_rep_zero l k)
      have hel := Lib.hid (Delta.enc_length (rep l k) l.length)
      have hfit : (rep l k).length ≤ 140737488355328 := by omega
      generalize rep l k = all at *
      have hd1 : (1 : Int) ≤ l.length := by omega
      have g5 : decide ((k : Int) < (t.toNat : Int) % 5) = false := by simp; omega
      have hd2 : (l.length : Int) ≤ 256 := by omega
      clear hrl ho
      go_wp2_with fail
      refine (encode_any Aa all ca (l.length : Int) _ hBa hfit hd1 hd2).mono ?_
      rintro e w1 ⟨vx, rfl, hox, hb1⟩
      rw [Int.toNat_natCast] at hox
      obtain ⟨Ax, cx, rfl, hcx, hmx, hBx⟩ := hox.read
      have g3 := below_after hb hb1
      have hzz : ∀ i, l.length ≤ i → i < (Delta.enc all l.length).length → Delta.at_ (Delta.enc all l.length) i = 0 := fun i h3 h4 => hz.out i (by omega) h3 (by rw [← hel.out]; exact h4)
      have hlen := hel.out
      generalize Delta.enc all l.length = lx at *
      have HZ := Lib.hid hzz
      rw [hlen]
      have HL := Lib.hid hlen
      clear hzz hlen hox hz hel
      go_wp2_with fail
      go_loop [9] (fun i => ∃ j : Nat, l.length ≤ j ∧ j ≤ l.length + all.length ∧ i = .int .i64 j) (fun i => all.length - (intOf i).toNat)
      case atStart => exact ⟨l.length, by omega, by omega, rfl⟩
      case round =>
        obtain ⟨j, hj, hj2, rfl⟩ := hrel
        by_cases hjl : j < all.length
        · have hjx : j < lx.length := by rw [HL.out]; exact hjl
          obtain ⟨bx, offx, rfl, _, hcellx⟩ := hBx.addr (by omega)
          have hcj := hcellx j hjx
          have hzero := HZ.out j hj hjx
          rw [at_get lx j hjx] at hzero
          rw [hzero] at hcj
          have hcj' : w1.cell? ⟨bx, offx + j, none⟩ = some (.int .u8 0) := hcj
          clear hcellx hzero hcj hjx
          go_wp2_with fail
          go_round
          case rel => exact ⟨j + 1, by omega, by omega, by go_num⟩
          case measure => simp [intOf]; omega
        · go_wp2_with fail
          refine (knows_any _).mono ?_
          rintro e w4 ⟨rfl, hb4⟩
          go_wp2_with fail
          go_ret
          exact ⟨rfl, below_after g3 hb4⟩
end Go.Proofs.Ytonpdnagoapjoaa
