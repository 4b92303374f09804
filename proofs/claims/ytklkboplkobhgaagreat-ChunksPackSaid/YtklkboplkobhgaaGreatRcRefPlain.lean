/- The walk over the reference's Plain. -/
import Derived.Test.YtklkboplkobhgaaGreatRcRefAll
import Derived.Test.YtklkboplkobhgaaGreatRcAll
namespace Go.Proofs.YtklkboplkobhgaaGreat
set_option maxRecDepth 100000
open Go.RowKit

theorem Rc.plain_mod (s : Rc.St) : ∀ (m x : Nat), s.plain (x % 2 ^ m) m = s.plain x m
  | 0, _ => rfl
  | m + 1, x => by
    have h1 : x % 2 ^ (m + 1) / 2 = x / 2 % 2 ^ m := by rw [Nat.pow_succ, Nat.mul_comm, Nat.mod_mul_right_div_self]
    have h2 : x % 2 ^ (m + 1) % 2 = x % 2 := by rw [Nat.pow_succ, Nat.mod_mul_left_mod]
    rw [Rc.St.plain, Rc.St.plain, h1, h2, Rc.plain_mod s m (x / 2)]

set_option maxRecDepth 100000 in
set_option maxHeartbeats 1000000 in
theorem rplain_any (h : Nat) : ∀ (n x o cap : Nat) (s : Rc.St) (w : World), RefAt w h o cap s → s.ok → x < 4294967296 → n ≤ 32 → 4 + s.k + n + 2 ≤ 140737488355328 →
    Calls Tryz.prog 68 #[.pointer (some ⟨h, 0, none⟩), .int .u32 (x : Nat), .int .i64 (n : Nat)] w (Did (RefDone w h o (s.plain x n)))
  | 0, x, o, cap, s, w, hE, hs, hx, hn, hk => by
    go_enter Tryz.func68, Tryz.ntmps68
    go_wp2_with fail
    go_end0
    exact ⟨rfl, o, cap, hE, Only.refl _ _, .inl rfl⟩
  | n + 1, x, o, cap, s, w, hE, hs, hx, hn, hk => by
    have ih := rplain_any h n (x / 2) o cap s w hE hs (by omega) (by omega) (by omega)
    obtain ⟨hpok, hpk⟩ := s.plain_ok hs n (x / 2)
    have hnext : s.plain x (n + 1) = Rc.St.scale 1 ((s.plain (x / 2) n).half (x % 2 == 1)) := rfl
    rw [hnext]
    clear hnext
    generalize s.plain (x / 2) n = p at *
    have hx2 : (x : Int) / 2 = ((x / 2 : Nat) : Int) := by omega
    have hbit : ((x : Int) % 2 == 1) = (x % 2 == 1) := by rw [Bool.eq_iff_iff]; simp; omega
    have hn1 : ((n + 1 : Nat) : Int) - 1 = (n : Int) := by omega
    have hn0 : (((n + 1 : Nat) : Int) == 0) = false := beq_eq_false_iff_ne.2 (by omega)
    have hn2 : 1 ≤ n + 1 := by omega
    generalize hy : x / 2 = y at *
    generalize (x % 2 == 1) = b at *
    generalize hN : n + 1 = N at *
    have IH := Lib.hid ih
    obtain ⟨hhf, hhr⟩ := p.half_fits b hpok
    have hpr := hpok.1.2
    have hr2 : (p.r : Int) / 2 = ((p.r / 2 : Nat) : Int) := by omega
    have hr2l : p.r / 2 < 4294967296 := by omega
    generalize hrh : p.r / 2 = rh at *
    have HRH := Lib.hid hrh
    have hpkk : 4 + p.k + 2 ≤ 140737488355328 := by omega
    clear hrh ih hy hN
    cases b with
    | false =>
      have hph : p.half false = ⟨p.k, p.v, rh⟩ := by rw [← HRH.out]; rfl
      rw [hph] at hhf hhr ⊢
      go_enter Tryz.func68, Tryz.ntmps68
      go_wp2_with fail
      refine IH.out.mono ?_
      rintro e w1 ⟨rfl, o1, cap1, hE1, hon1, ho1⟩
      have c1 := cell21_of hE1.blk
      have f1 := frozen_of_row w1 h 1 _ _ hE1.blk
      have hE2 : RefAt (w1.setCell ⟨h, 1, none⟩ (.int .u64 ((rh : Nat) : Int))) h o1 cap1 ⟨p.k, p.v, rh⟩ := ⟨blk2_set1 hE1.blk _, own_other hE1.own hE1.ne _, hE1.ne⟩
      have hsh := Lib.hid (rscale_any 1 h o1 cap1 ⟨p.k, p.v, rh⟩ _ hE2 hhf (by show 4 + p.k + 1 ≤ _; omega) (by show 16777216 ≤ rh * 256 ^ 1; have : 8388608 ≤ rh := hhr; omega))
      go_wp2_with fail
      refine hsh.out.mono ?_
      rintro e w2 ⟨rfl, o2, cap2, hE3, hon3, ho3⟩
      go_wp2_with fail
      go_end0
      have hsz := hon1.size
      refine ⟨rfl, o2, cap2, hE3, (hon1.setCell (p := ⟨h, 1, none⟩) (.inl (by simp)) _).trans hon3 (by simp), ?_⟩
      rcases ho3 with h1 | h1
      · rw [h1]; exact ho1
      · exact .inr (by simp at h1; omega)
    | true =>
      have hph : p.half true = ⟨p.k, p.v + rh, rh⟩ := by rw [← HRH.out]; rfl
      rw [hph] at hhf hhr ⊢
      go_enter Tryz.func68, Tryz.ntmps68
      go_wp2_with fail
      refine IH.out.mono ?_
      rintro e w1 ⟨rfl, o1, cap1, hE1, hon1, ho1⟩
      have c1 := cell21_of hE1.blk
      have f1 := frozen_of_row w1 h 1 _ _ hE1.blk
      have hE2 : RefAt (w1.setCell ⟨h, 1, none⟩ (.int .u64 ((rh : Nat) : Int))) h o1 cap1 ⟨p.k, p.v, rh⟩ := ⟨blk2_set1 hE1.blk _, own_other hE1.own hE1.ne _, hE1.ne⟩
      have hadd := Lib.hid (radd_any h o1 cap1 ⟨p.k, p.v, rh⟩ rh _ hE2 hr2l (by show 4 + p.k ≤ _; omega))
      go_wp2_with fail
      refine hadd.out.mono ?_
      rintro e w2 ⟨rfl, o2, cap2, hE3, hon3, ho3⟩
      have hsh := Lib.hid (rscale_any 1 h o2 cap2 ⟨p.k, p.v + rh, rh⟩ _ hE3 hhf (by show 4 + p.k + 1 ≤ _; omega) (by show 16777216 ≤ rh * 256 ^ 1; have : 8388608 ≤ rh := hhr; omega))
      go_wp2_with fail
      refine hsh.out.mono ?_
      rintro e w3 ⟨rfl, o3, cap3, hE4, hon4, ho4⟩
      go_wp2_with fail
      go_end0
      have hsz := hon1.size
      have hsz3 := hon3.size
      refine ⟨rfl, o3, cap3, hE4, ((hon1.setCell (p := ⟨h, 1, none⟩) (.inl (by simp)) _).trans hon3 (by simp)).trans hon4 (by simp), ?_⟩
      rcases ho4 with h1 | h1
      · rw [h1]
        rcases ho3 with h2 | h2
        · rw [h2]; exact ho1
        · exact .inr (by simp at h2; omega)
      · exact .inr (by simp at hsz3; omega)
end Go.Proofs.YtklkboplkobhgaaGreat
