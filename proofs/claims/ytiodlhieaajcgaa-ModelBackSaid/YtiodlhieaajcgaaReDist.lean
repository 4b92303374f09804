/- The reference's distances. -/
import Derived.Test.YtiodlhieaajcgaaReLen
import Derived.Test.YtiodlhieaajcgaaRcRefPlain
namespace Go.Proofs.Ytiodlhieaajcgaa
open Go.RowKit

/-- The range coder alone has gone on. -/
theorem RE.coder {C base h N : Nat} {lc lp pb st : Int} {r : R4} {x : (Nat → Nat) × Rc.St} {Y : List Nat} {w : World} (hM : RE w C base h N lc lp pb st r x Y) : ∃ o cap, RefAt w h o cap x.2 ∧ ∀ (s2 : Rc.St) (w' : World), RefDone w h o s2 w' → WentR C base h N lc lp pb st r (x.1, s2) Y w w' := by
  obtain ⟨Pl, vR, gR, gP, capP, o, cap, hC, hgR, hE, hPl, hP, rfl⟩ := hM.ex
  refine ⟨o, cap, hE, ?_⟩
  rintro s2 w' ⟨o2, cap2, hE2, hon, ho⟩
  obtain ⟨csP, hrP⟩ := hC.ps.row
  have hRr : ∃ cs, w.heap[gR]? = some (.cells cs 3 (0, 0)) := by
    obtain ⟨g, cap', e, _⟩ := hC.reps.some_of_pos (show 0 < 4 by decide)
    rw [e] at hgR
    injection hgR with hgR
    subst hgR
    have h0 := hC.reps
    rw [e] at h0
    exact h0.row
  obtain ⟨csR, hrR⟩ := hRr
  have n1 : gP ≠ h := row_ne hrP hE.blk (by decide)
  have n2 : C ≠ h := row_ne hC.box hE.blk (by decide)
  have n3 : gR ≠ h := row_ne hrR hE.blk (by decide)
  have bC := hon.block C (Array.getElem?_eq_some_iff.1 hC.box).1 (by simpa using n2)
  have bR := hon.block gR (Array.getElem?_eq_some_iff.1 hrR).1 (by simpa using n3)
  have bP := hon.block gP (Array.getElem?_eq_some_iff.1 hrP).1 (by simpa using n1)
  refine ⟨[C, gR, gP, h, o2], ⟨⟨Pl, vR, gR, gP, capP, o2, cap2, ⟨bC.trans hC.box, ?_, ?_⟩, hgR, hE2, hPl, hP, rfl⟩, hM.fair⟩, ?_, ?_⟩
  · exact hC.reps.keep (fun g e => by rw [hgR] at e; injection e with e; subst e; exact bR)
  · exact hC.ps.keep (fun g e => by injection e with e; subst e; exact bP)
  · exact ⟨hon.os, hon.tape, hon.output, hon.size, fun k hk hX => hon.block k hk (fun h2 => hX (by simp at h2; simp [h2]))⟩
  · intro k hk
    simp only [List.mem_cons, List.not_mem_nil, or_false] at hk ⊢
    rcases hk with rfl | rfl | rfl | rfl | rfl
    · exact .inl (.inl rfl)
    · exact .inl (.inr (.inl rfl))
    · exact .inl (.inr (.inr (.inl rfl)))
    · exact .inl (.inr (.inr (.inr (.inl rfl))))
    · rcases ho with e | e
      · exact .inl (.inr (.inr (.inr (.inr e))))
      · exact .inr e
theorem replain_is {g C base h N : Nat} {lc lp pb st : Int} {r : R4} {x : (encIo g).S} {Y : List Nat} {w : World} (hM : RE w C base h N lc lp pb st r x Y) {k v m : Nat} (hok : (encIo g).ok x.2 (k + 34)) (hv : v < 4294967296) (hm : m ≤ 32) {s2 : (encIo g).σ} (hz : ((encIo g).plain x.2 v m).2 = s2) :
    Calls Try.prog 52 #[PF h, .int .u32 (v : Nat), .int .i64 (m : Nat)] w (RDone (.tuple #[]) C base h N lc lp pb st r (x.1, s2) Y w) ∧ (encIo g).ok s2 (k + 2) := by
  subst hz
  obtain ⟨o, cap, hE, hgo⟩ := hM.coder
  refine ⟨(rplain_any h m v o cap x.2 w hE hok.1 hv hm (by have := hok.2; omega)).mono ?_, (encIo g).okPlain hok hm⟩
  rintro e w' ⟨rfl, hd⟩
  exact ⟨rfl, hgo _ _ hd⟩
theorem big_n : ∀ (d : Nat), 4 ≤ d → ∃ n, 1 ≤ n ∧ 2 ≤ d / 2 ^ n ∧ d / 2 ^ n ≤ 3 := by
  intro d
  induction d using Nat.strongRecOn with
  | ind d ih =>
    intro h
    by_cases h3 : d / 2 ≤ 3
    · exact ⟨1, by omega, by simp; omega, by simp; omega⟩
    · obtain ⟨n, h1, h2, h4⟩ := ih (d / 2) (by omega) (by omega)
      refine ⟨n + 1, by omega, ?_, ?_⟩
      · rw [Nat.pow_succ, Nat.mul_comm, ← Nat.div_div_eq_div_mul]; exact h2
      · rw [Nat.pow_succ, Nat.mul_comm, ← Nat.div_div_eq_div_mul]; exact h4
/-- A slot and the bits behind it. -/
theorem big_slot {d : Nat} (h4 : 4 ≤ d) (hd : d < 4294967296) : ∃ n q, slotN d / 2 - 1 = n ∧ d / 2 ^ n = q ∧ 1 ≤ n ∧ n ≤ 30 ∧ 2 ≤ q ∧ q ≤ 3 ∧ slotN d = 2 * n + q := by
  obtain ⟨n, h1, h2, h3⟩ := big_n d h4
  obtain ⟨hs, _⟩ := slot_of h2 h3 hd h1
  have hn : slotN d / 2 - 1 = n := by omega
  have := slotN_lt hd
  exact ⟨n, _, hn, rfl, h1, by omega, h2, h3, hs⟩
theorem dist_enc (g l dd : Nat) (h1 : 1 ≤ dd) (h2 : dd ≤ 4294967295) (x : (encIo g).S) : (Md.dist (encIo g) l (dd : Nat) x).1 = dd := by
  obtain ⟨d, rfl⟩ : ∃ d, dd = d + 1 := ⟨dd - 1, by omega⟩
  have e0 : ((((d + 1 : Nat) : Int) - 1) % 4294967296).toNat = d := by omega
  have hsl := slotN_lt (d := d) (by omega)
  unfold Md.dist
  rw [e0]
  simp only
  rw [tree_enc _ _ _ _ (by omega)]
  by_cases h4 : d < 4
  · rw [show slotN d = d by unfold slotN; rw [if_pos h4], if_pos h4]
  · obtain ⟨n, q, hn, hq, n1, n30, q2, q3, hs⟩ := big_slot (d := d) (by omega) (by omega)
    rw [if_neg (by omega), hn]
    have hm : 2 + slotN d % 2 = q := by omega
    rw [hm]
    have hdm := Nat.div_add_mod d (2 ^ n)
    rw [hq, Nat.mul_comm] at hdm
    by_cases h14 : slotN d < 14
    · rw [if_pos h14]
      simp only
      rw [rev_enc]
      omega
    · rw [if_neg h14]
      simp only
      have e1 : ∀ (s : (encIo g).σ) (v m : Nat), ((encIo g).plain s v m).1 = v := fun _ _ _ => rfl
      rw [e1, rev_enc]
      have hV : d / 16 % 2 ^ (n - 4) < 2 ^ (n - 4) := Nat.mod_lt _ (Nat.pow_pos (by decide))
      rw [Nat.mod_eq_of_lt hV]
      have e2 : d % 2 ^ n = d / 16 % 2 ^ (n - 4) * 16 + d % 2 ^ 4 := by
        have e3 : 2 ^ n = 16 * 2 ^ (n - 4) := by
          rw [show (16 : Nat) = 2 ^ 4 from rfl, ← Nat.pow_add, show 4 + (n - 4) = n by omega]
        have h := Nat.div_add_mod (d % 2 ^ n) 16
        rw [e3, Nat.mod_mul_right_div_self, Nat.mod_mul_right_mod] at h
        rw [e3]
        omega
      omega
theorem bit_of_mod {v n i : Nat} (hi : i < n) : Md.bitOf ((v % 2 ^ n : Nat) : Int) i = Md.bitOf ((v : Nat) : Int) i := by
  have h1 := bitI_of (v % 2 ^ n) i
  have h2 := bitI_of v i
  rw [mod_bit v n i hi, h2] at h1
  cases ha : Md.bitOf ((v % 2 ^ n : Nat) : Int) i <;> cases hb : Md.bitOf ((v : Nat) : Int) i <;> rw [ha, hb] at h1 <;> first | rfl | (simp [bitI] at h1)
set_option maxRecDepth 100000 in
set_option maxHeartbeats 2000000 in
theorem redist_any {g C base h N : Nat} {lc lp pb st : Int} {r : R4} {x : (encIo g).S} {Y : List Nat} {w : World} (hM : RE w C base h N lc lp pb st r x Y) {k l dd : Nat} (hok : (encIo g).ok x.2 (k + 60)) (h2 : 2 ≤ l) (h3 : l ≤ 273) (hd1 : 1 ≤ dd) (hd2 : dd ≤ 4294967295) (hN : 2180 ≤ N) (hN2 : N ≤ 1000000) {z : (encIo g).S} (hz : (Md.dist (encIo g) l (dd : Nat) x).2 = z) :
    Calls Try.prog 35 #[PF C, PF h, .int .i64 (l : Nat), .int .i64 (dd : Nat)] w (MAnd ((encIo g).ok z.2 k) (RDone (.tuple #[]) C base h N lc lp pb st r z Y w)) := by
  obtain ⟨Q, hQ⟩ : ∃ Q, ((encIo g).ok z.2 k) = Q := ⟨_, rfl⟩
  rw [hQ]
  have HQ := Lib.hid hQ
  obtain ⟨d, rfl⟩ : ∃ d, dd = d + 1 := ⟨dd - 1, by omega⟩
  have e0 : ((((d + 1 : Nat) : Int) - 1) % 4294967296).toNat = d := by omega
  have hd32 : d < 4294967295 := by omega
  have hsl := slotN_lt (d := d) (by omega)
  obtain ⟨sl, hsl'⟩ : ∃ sl, slotN d = sl := ⟨_, rfl⟩
  rw [hsl'] at hsl
  obtain ⟨SL, hSL⟩ : ∃ SL, 1460 + 64 * min (l - 2) 3 = SL := ⟨_, rfl⟩
  have hSLb : 1460 ≤ SL ∧ SL ≤ 1652 := by omega
  obtain ⟨y, hy⟩ : ∃ y, (Md.tree (encIo g) SL 6 (sl : Nat) x).2 = y := ⟨_, rfl⟩
  unfold Md.dist at hz
  rw [e0] at hz
  simp only [hsl', hSL] at hz
  have h1 := tree_enc g SL sl 6 (by omega) x
  simp only [h1, hy] at hz
  have hyy : (Md.treeGo (encIo g) SL (sl : Nat) 6 1 x).2 = y := hy
  have HTR := Lib.hid (fun (w : World) (hM : RE w C base h N lc lp pb st r x Y) => retree_any hM (n := 6) (k := k + 51) hok (at_ := SL) (by omega) (by omega) hN2 sl (by omega) hyy)
  have HSLT := Lib.hid (fun w => rslots_any l h2 (by omega) w)
  rw [hSL] at HSLT
  have HM := Lib.hid hM
  have hsli : (sl : Int) < 64 := by omega
  have hdi : (d : Int) < 4294967295 := by omega
  have e1 : ((d + 1 : Nat) : Int) = (d : Int) + 1 := by omega
  have e2 : (d : Int) + 1 - 1 = (d : Int) := by omega
  rw [e1]
  have hli : (l : Int) ≤ 273 := by omega
  clear hQ hy h1 hyy hSL hM e0 e1 hd1 hd2 hok
  by_cases h4 : d < 4
  · have hs4 : sl = d := by rw [← hsl']; unfold slotN; rw [if_pos h4]
    rw [if_pos (by omega)] at hz
    have HSLO := Lib.hid (rslot_small d h4 w)
    unfold SlotDone at HSLO
    rw [hsl'] at HSLO
    have HZ : Hid (y = z) := Lib.hid hz
    clear hz hs4 hsl'
    go_enter Try.func35, Try.ntmps35
    go_wp2_with fail
    refine HSLO.out.mono ?_
    rintro e w1 ⟨rfl, rfl⟩
    go_wp2_with fail
    refine (HSLT.out w).mono ?_
    rintro e w1 ⟨rfl, rfl⟩
    go_wp2_with fail
    refine (HTR.out w HM.out).mono ?_
    rintro e w1 ⟨⟨rfl, hw1⟩, ok1⟩
    go_wp2_with fail
    refine bodyPost_ret_by (results_none rfl _ _ _) rfl ?_
    rw [HZ.out] at hw1 ok1
    exact ⟨⟨rfl, hw1⟩, by rw [← HQ.out]; exact (encIo g).le ok1 (by omega)⟩
  · obtain ⟨n, q, hn, hq, n1, n30, q2, q3, hs⟩ := big_slot (d := d) (by omega) (by omega)
    rw [hsl'] at hn hs
    have h4s : ¬ sl < 4 := by omega
    rw [if_neg h4s, hn] at hz
    have HSLO := Lib.hid (rslot_big d (by omega) (by omega) w)
    unfold SlotDone at HSLO
    rw [hsl', hn] at HSLO
    obtain ⟨rest, hrest⟩ : ∃ rest, d % 2 ^ n = rest := ⟨_, rfl⟩
    have hpn : 1 ≤ 2 ^ n := Nat.one_le_two_pow
    have hrl : rest < 2 ^ n := by rw [← hrest]; exact Nat.mod_lt _ hpn
    have hp30 : 2 ^ n ≤ 2 ^ 30 := Nat.pow_le_pow_right (by omega) n30
    have HTW := Lib.hid (fun w => two_any n n30 w)
    have htm : ((d : Nat) : Int).tmod ((2 ^ n : Nat) : Int) = (rest : Int) := by rw [Int.tmod_eq_emod_of_nonneg (by omega), ← hrest]; omega
    have hpz : ((2 ^ n : Nat) : Int) ≠ 0 := by omega
    have hri : (rest : Int) < 1073741824 := by omega
    have hni : (n : Int) ≤ 30 := by omega
    have hn1i : (1 : Int) ≤ (n : Int) := by omega
    have hn0 : ((n : Int) == 0) = false := beq_eq_false_iff_ne.2 (by omega)
    by_cases h14 : sl < 14
    · have h14i : (sl : Int) < 14 := by omega
      rw [if_pos h14] at hz
      have h5 : 2 ^ n ≤ 2 ^ 5 := Nat.pow_le_pow_right (by omega) (by omega)
      have HRT := Lib.hid (fun (w1 : World) (Y1 : List Nat) (hM1 : RE w1 C base h N lc lp pb st r y Y1) (hok1 : (encIo g).ok y.2 (k + 54)) => returned_any hM1 (n := n) (k := k) ((encIo g).le hok1 (by omega)) (at_ := 1716 + 32 * sl) (by omega) (by omega) hN2 rest d (by omega) (fun i hi => by rw [← hrest]; exact (bit_of_mod hi).symm) hz)
      have HLOW := Lib.hid (fun w => rlow_any sl hsl w)
      obtain ⟨LO, hLO⟩ : ∃ LO, 1716 + 32 * sl = LO := ⟨_, rfl⟩
      rw [hLO] at HRT HLOW
      obtain ⟨PW, hPW⟩ : ∃ PW, 2 ^ n = PW := ⟨_, rfl⟩
      rw [hPW] at HTW htm hpz
      clear hz hs hsl' hn hq hrest hrl hp30 hpn h5 hLO hPW h4 h4s h14
      go_enter Try.func35, Try.ntmps35
      go_wp2_with fail
      refine HSLO.out.mono ?_
      rintro e w1 ⟨rfl, rfl⟩
      go_wp2_with fail
      refine (HSLT.out w).mono ?_
      rintro e w1 ⟨rfl, rfl⟩
      go_wp2_with fail
      refine (HTR.out w HM.out).mono ?_
      rintro e w1 ⟨⟨rfl, Y1, hM1, hon1, hY1⟩, ok1⟩
      have HC := Lib.hid (HRT.out w1 Y1 hM1 ok1)
      have HO1 := Lib.hid (And.intro hon1 hY1)
      clear hM1 hon1 hY1 ok1
      go_wp2_with fail
      refine (HTW.out w1).mono ?_
      rintro e w2 ⟨rfl, rfl⟩
      go_wp2_with fail
      refine (HLOW.out w1).mono ?_
      rintro e w2 ⟨rfl, rfl⟩
      go_wp2_with fail
      refine HC.out.mono ?_
      rintro e w2 ⟨⟨rfl, hw2⟩, ok2⟩
      go_wp2_with fail
      refine bodyPost_ret_by (results_none rfl _ _ _) rfl ?_
      exact ⟨⟨rfl, WentR.trans HO1.out.1 HO1.out.2 hw2⟩, by rw [← HQ.out]; exact (encIo g).le ok2 (by omega)⟩
    · have h14b : decide ((sl : Int) < 14) = false := decide_eq_false (by omega)
      rw [if_neg h14] at hz
      obtain ⟨m, hm⟩ : ∃ m, n - 4 = m := ⟨_, rfl⟩
      have hmi : (n : Int) - 4 = (m : Int) := by omega
      rw [hm] at hz
      obtain ⟨V, hV⟩ : ∃ V, d / 16 % 2 ^ m = V := ⟨_, rfl⟩
      rw [hV] at hz
      have hVr : rest / 16 = V := by
        rw [← hrest, ← hV]
        have e3 : 2 ^ n = 16 * 2 ^ m := by
          rw [show (16 : Nat) = 2 ^ 4 from rfl, ← Nat.pow_add, show 4 + m = n by omega]
        rw [e3, Nat.mod_mul_right_div_self]
      have hVb : (V : Int) < 67108864 := by omega
      have hV0 : (rest : Int) / 16 = (V : Int) := by omega
      obtain ⟨s2, hs2⟩ : ∃ s2, ((encIo g).plain y.2 V m).2 = s2 := ⟨_, rfl⟩
      rw [hs2] at hz
      have HPL := Lib.hid (fun (w1 : World) (Y1 : List Nat) (hM1 : RE w1 C base h N lc lp pb st r y Y1) (hok1 : (encIo g).ok y.2 (k + 54)) => replain_is hM1 (k := k + 20) (v := V) (m := m) hok1 (by omega) (by omega) hs2)
      obtain ⟨r16, hr16⟩ : ∃ r16, rest % 16 = r16 := ⟨_, rfl⟩
      have hr16i : ((rest : Nat) : Int).tmod 16 = (r16 : Int) := by rw [Int.tmod_eq_emod_of_nonneg (by omega), ← hr16]; omega
      have HRT := Lib.hid (fun (w1 : World) (Y1 : List Nat) (hM1 : RE w1 C base h N lc lp pb st r (y.1, s2) Y1) (hok1 : (encIo g).ok s2 (k + 22)) => returned_any hM1 (x := (y.1, s2)) (n := 4) (k := k) ((encIo g).le hok1 (by omega)) (at_ := 2164) (by omega) (by omega) hN2 r16 d (by omega) (fun i hi => by
        rw [← hr16, ← hrest, show (16 : Nat) = 2 ^ 4 from rfl]
        rw [bit_of_mod hi, bit_of_mod (by omega)]) hz)
      have HAL := Lib.hid (fun w => ralign_any w)
      obtain ⟨PW, hPW⟩ : ∃ PW, 2 ^ n = PW := ⟨_, rfl⟩
      rw [hPW] at HTW htm hpz
      clear hz hs hsl' hn hq hrest hrl hp30 hpn hPW h4 h4s h14 hV hVr hs2 hm hr16
      go_enter Try.func35, Try.ntmps35
      go_wp2_with fail
      refine HSLO.out.mono ?_
      rintro e w1 ⟨rfl, rfl⟩
      go_wp2_with fail
      refine (HSLT.out w).mono ?_
      rintro e w1 ⟨rfl, rfl⟩
      go_wp2_with fail
      refine (HTR.out w HM.out).mono ?_
      rintro e w1 ⟨⟨rfl, Y1, hM1, hon1, hY1⟩, ok1⟩
      obtain ⟨hc, okc⟩ := HPL.out w1 Y1 hM1 ok1
      have HC := Lib.hid hc
      have HOKC := Lib.hid okc
      have HO1 := Lib.hid (And.intro hon1 hY1)
      clear hM1 hon1 hY1 ok1 hc okc
      go_wp2_with fail
      refine (HTW.out w1).mono ?_
      rintro e w2 ⟨rfl, rfl⟩
      go_wp2_with fail
      refine HC.out.mono ?_
      rintro e w2 ⟨rfl, hw2⟩
      obtain ⟨Y2, hM2, hon2, hY2⟩ := WentR.trans HO1.out.1 HO1.out.2 hw2
      have HC2 := Lib.hid (HRT.out w2 Y2 hM2 HOKC.out)
      have HO2 := Lib.hid (And.intro hon2 hY2)
      clear hM2 hon2 hY2 hw2
      go_wp2_with fail
      refine (HAL.out w2).mono ?_
      rintro e w3 ⟨rfl, rfl⟩
      go_wp2_with fail
      refine HC2.out.mono ?_
      rintro e w3 ⟨⟨rfl, hw3⟩, ok3⟩
      go_wp2_with fail
      go_end0
      exact ⟨⟨rfl, WentR.trans HO2.out.1 HO2.out.2 hw3⟩, by rw [← HQ.out]; exact (encIo g).le ok3 (by omega)⟩
end Go.Proofs.Ytiodlhieaajcgaa
