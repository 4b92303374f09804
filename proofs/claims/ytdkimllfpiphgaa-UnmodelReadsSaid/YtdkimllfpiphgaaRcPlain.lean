/- The walk over the coder's Plain. -/
import Derived.Test.YtdkimllfpiphgaaRcBit
import Derived.Test.YtdkimllfpiphgaaRcMath2
import Derived.Deep.DeepCutAuto
namespace Go.Proofs.Ytdkimllfpiphgaa
open Go.RowKit

def PlainDone (w : World) (g o : Nat) (x : Nat) (t : Rc.St) (e : Ending) (w' : World) : Prop := e = .returned (.int .u32 (x : Nat)) ∧ Shifted w g o t w'

/-- How many bits count. -/
def many (n : Int) : Nat := (min (max n 0) 32).toNat

theorem mod_bit (x m j : Nat) (h : j < m) : x % 2 ^ m / 2 ^ j % 2 = x / 2 ^ j % 2 := by
  have e : 2 ^ m = 2 ^ j * 2 ^ (m - j) := by rw [← Nat.pow_add, show j + (m - j) = m by omega]
  rw [e, Nat.mod_mul_right_div_self]
  obtain ⟨d, hd⟩ : ∃ d, m - j = d + 1 := ⟨m - j - 1, by omega⟩
  rw [hd, Nat.pow_succ, Nat.mod_mul_left_mod]
theorem bit_test (x j : Nat) (hx : x < 2 ^ 32) : (bits .and .u32 ((x : Int) / 2 ^ j) 1 == 1) = (x / 2 ^ j % 2 == 1) := by
  have hle : x / 2 ^ j ≤ x := Nat.div_le_self _ _
  have e : (x : Int) / 2 ^ j = ((x / 2 ^ j : Nat) : Int) := by simp
  rw [e, show (1 : Int) = ((1 : Nat) : Int) from rfl, u32_and_nat _ _ (by omega) (by omega), nat_mask1, Bool.eq_iff_iff]
  simp; omega

theorem masked (x t : Nat) (hx : x < 2 ^ 32) (ht : t ≤ 32) : bits .and .u64 (x : Int) (IntKind.u64.wrap (IntKind.u64.wrap (2 ^ t) - 1)) % 4294967296 = ((x % 2 ^ t : Nat) : Int) := by
  have h1 : 1 ≤ 2 ^ t := Nat.one_le_two_pow
  have h2 : 2 ^ t ≤ 2 ^ 32 := Nat.pow_le_pow_right (by omega) ht
  have e : IntKind.u64.wrap (IntKind.u64.wrap (2 ^ t) - 1) = ((2 ^ t - 1 : Nat) : Int) := by
    rw [show (2 : Int) ^ t = ((2 ^ t : Nat) : Int) by simp, IntKind.wrap_u64, IntKind.wrap_u64]
    omega
  have hle : x % 2 ^ t ≤ x := Nat.mod_le _ _
  rw [e, u64_and_nat _ _ (by omega) (by omega), Nat.and_two_pow_sub_one_eq_mod]
  omega

set_option maxRecDepth 100000 in
set_option maxHeartbeats 1000000 in
theorem plain_any (g o cap : Nat) (s : Rc.St) (x : BitVec 32) (n : Int) (w : World) (hE : EncAt w g o cap s) (hs : s.ok) (hk : 1 + s.k + 40 ≤ 140737488355328) :
    Calls Try.prog 91 #[.pointer (some ⟨g, 0, none⟩), .int .u32 x.toNat, .int .i64 n] w
      (PlainDone w g o (x.toNat % 2 ^ many n) (s.plain (x.toNat % 2 ^ many n) (many n))) := by
  go_enter Try.func91, Try.ntmps91
  go_upto_region 3 with (fail)
  go_cut [2] (fun s2 wx => w = wx ∧ s2 = .int .i64 ((many n : Nat) : Int))
  case first =>
    go_wp2_with fail
    all_goals
      go_meet
      refine ⟨rfl, congrArg (Value.int .i64) ?_⟩
      unfold many
      omega
  case rest =>
    obtain ⟨rfl, rfl⟩ := hcut
    have hm : many n ≤ 32 := by unfold many; omega
    generalize many n = m at *
    go_wp2_with fail
    generalize hX : x.toNat % 2 ^ m = X at *
    have HX := Lib.hid hX
    clear hX
    go_loopw [7] (fun i wr => ∃ (t o' cap' : Nat), t ≤ m ∧ i = .int .i64 ((m : Int) - 1 - (t : Int)) ∧ EncAt wr g o' cap' (s.plain (X / 2 ^ (m - t)) t) ∧ Only [g, o] w wr ∧ (o' = o ∨ w.heap.size ≤ o')) (fun i _ => (intOf i + 1).toNat)
    case atStart => exact ⟨0, o, cap, by omega, by go_num, hE, Only.refl _ _, .inl rfl⟩
    case round =>
      obtain ⟨t, o', cap', ht, rfl, hT, hon, ho'⟩ := hrel
      obtain ⟨hpok, hpk⟩ := s.plain_ok hs t (X / 2 ^ (m - t))
      by_cases hlt : t < m
      · obtain ⟨j, hj⟩ : ∃ j : Nat, j = m - 1 - t := ⟨_, rfl⟩
        have hji : (m : Int) - 1 - (t : Int) = (j : Int) := by omega
        have hnext : s.plain (X / 2 ^ (m - (t + 1))) (t + 1) = Rc.St.scale 1 ((s.plain (X / 2 ^ (m - t)) t).half (x.toNat / 2 ^ j % 2 == 1)) := by
          have e1 : m - (t + 1) = j := by omega
          have e2 : X / 2 ^ j / 2 = X / 2 ^ (m - t) := by rw [Nat.div_div_eq_div_mul, ← Nat.pow_succ, show m - t = j.succ by omega]
          have e3 : X / 2 ^ j % 2 = x.toNat / 2 ^ j % 2 := by rw [← HX.out]; exact mod_bit _ _ _ (by omega)
          rw [e1, Rc.St.plain, e2, e3]
        have HN := Lib.hid hnext
        generalize s.plain (X / 2 ^ (m - t)) t = p at *
        have c1 := cell1_of hT.blk
        have f1 := frozen_of_row wr g 1 _ _ hT.blk
        have hbit := bit_test x.toNat j x.isLt
        have hj32 : j < 32 := by omega
        generalize (x.toNat / 2 ^ j % 2 == 1) = b at *
        obtain ⟨hhf, hhr⟩ := p.half_fits b hpok
        clear hnext hE
        rw [hji]
        have HJ := Lib.hid hj
        have HJI := Lib.hid hji
        clear hj hji
        have hr2 : (p.r : Int) / 2 = ((p.r / 2 : Nat) : Int) := by omega
        have hpr := hpok.1.2
        have hr2l : p.r / 2 < 4294967296 := by omega
        generalize hrh : p.r / 2 = rh at *
        have HRH := Lib.hid hrh
        clear hrh
        have hsize := hon.size
        cases b with
        | false =>
          have hph : p.half false = ⟨p.k, p.v, rh⟩ := by rw [← HRH.out]; rfl
          rw [hph] at hhf hhr HN
          have hE1 : EncAt (wr.setCell ⟨g, 1, none⟩ (.int .u32 ((rh : Nat) : Int))) g o' cap' ⟨p.k, p.v, rh⟩ := ⟨blk_set1 hT.blk _, own_other hT.own hT.ne _, hT.ne⟩
          have hsh := Lib.hid (shift_any 1 g o' cap' ⟨p.k, p.v, rh⟩ _ hE1 hhf (by show 1 + p.k + 1 ≤ _; omega) (by show 16777216 ≤ rh * 256 ^ 1; have : 8388608 ≤ rh := hhr; omega))
          go_wp2_with fail
          refine hsh.out.mono ?_
          rintro e w2 ⟨rfl, o2, cap2, hE2, hon2, ho2⟩
          go_wp2_with fail
          go_roundw
          case rel =>
            have hj := HJ.out
            refine ⟨t + 1, o2, cap2, by omega, congrArg (Value.int .i64) (by omega), by rw [HN.out]; exact hE2, (hon.setCell (p := ⟨g, 1, none⟩) (.inl (by simp)) _).trans hon2 ?_, ?_⟩
            · intro i hi; simp at hi; rcases hi with rfl | rfl
              · exact .inl (by simp)
              · rcases ho' with h | h
                · exact .inl (by simp [h])
                · exact .inr h
            · rcases ho2 with h | h
              · rw [h]; exact ho'
              · exact .inr (by simp at h; omega)
          case measure => have hj := HJ.out; simp [intOf] <;> omega
        | true =>
          have hph : p.half true = ⟨p.k, p.v + rh, rh⟩ := by rw [← HRH.out]; rfl
          rw [hph] at hhf hhr HN
          have hE0 : EncAt (wr.setCell ⟨g, 1, none⟩ (.int .u32 ((rh : Nat) : Int))) g o' cap' ⟨p.k, p.v, rh⟩ := ⟨blk_set1 hT.blk _, own_other hT.own hT.ne _, hT.ne⟩
          have hadd := Lib.hid (add_any g o' cap' ⟨p.k, p.v, rh⟩ rh _ hE0 hr2l (by show 1 + p.k ≤ _; omega))
          go_wp2_with fail
          refine hadd.out.mono ?_
          rintro e w1 ⟨rfl, hE1, hona⟩
          have hsh := Lib.hid (shift_any 1 g o' cap' ⟨p.k, p.v + rh, rh⟩ _ hE1 hhf (by show 1 + p.k + 1 ≤ _; omega) (by show 16777216 ≤ rh * 256 ^ 1; have : 8388608 ≤ rh := hhr; omega))
          go_wp2_with fail
          refine hsh.out.mono ?_
          rintro e w2 ⟨rfl, o2, cap2, hE2, hon2, ho2⟩
          go_wp2_with fail
          have hsa := hona.size
          have hin : ∀ i ∈ [g, o'], i ∈ [g, o] ∨ w.heap.size ≤ i := by
            intro i hi; simp at hi; rcases hi with rfl | rfl
            · exact .inl (by simp)
            · rcases ho' with h | h
              · exact .inl (by simp [h])
              · exact .inr h
          go_roundw
          case rel =>
            have hj := HJ.out
            refine ⟨t + 1, o2, cap2, by omega, congrArg (Value.int .i64) (by omega), by rw [HN.out]; exact hE2, ((hon.setCell (p := ⟨g, 1, none⟩) (.inl (by simp)) _).trans hona hin).trans hon2 hin, ?_⟩
            rcases ho2 with h | h
            · rw [h]; exact ho'
            · exact .inr (by simp at hsa; omega)
          case measure => have hj := HJ.out; simp [intOf] <;> omega
      · have htm : t = m := by omega
        subst htm
        have hp0 : X / 2 ^ (t - t) = X := by simp
        rw [hp0] at hT
        go_wp2_with fail
        go_ret
        exact ⟨by rw [masked _ _ x.isLt hm, HX.out]; rfl, o', cap', hT, hon, ho'⟩
end Go.Proofs.Ytdkimllfpiphgaa
