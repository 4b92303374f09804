/- Several texts in one: ReDist, ReLit, ReSym, ReBec. -/
import Derived.Test.YtklkboplkobhgaaGreatReLow
import Derived.Test.YtklkboplkobhgaaGreatRcRefPlain
import Derived.Test.YtklkboplkobhgaaGreatMdSym
import Derived.Test.YtklkboplkobhgaaGreatCoAll
/- The reference's distances. -/
namespace Go.Proofs.YtklkboplkobhgaaGreat
set_option maxRecDepth 100000
open Go.RowKit

/-- The range coder alone has gone on. -/
theorem RE.coder {C base h N : Nat} {lc lp pb st : Int} {r : R4} {x : (Nat → Nat) × Rc.St} {Y : List Nat} {w : World} (hM : RE w C base h N lc lp pb st r x Y) : ∃ o cap, RefAt w h o cap x.2 ∧ ∀ (s2 : Rc.St) (w' : World), RefDone w h o s2 w' → WentR C base h N lc lp pb st r (x.1, s2) Y w w' := by
  obtain ⟨Pl, vR, gR, gP, capP, o, cap, hC, hgR, hE, hPl, hP, rfl⟩ := hM.ex
  refine ⟨o, cap, hE, ?_⟩
  rintro s2 w' ⟨o2, cap2, hE2, hon, ho⟩
  obtain ⟨csP, hrP⟩ := hC.ps.row
  have hRr : ∃ cs, w.heap[gR]? = some (.cells cs 3 (0, 0)) := by
    obtain ⟨g, cap', e, _⟩ := hC.reps.some_of_pos (show 0 < 4 by decide)
    rw [e] at hgR
    injection hgR with hgR
    subst hgR
    have h0 := hC.reps
    rw [e] at h0
    exact h0.row
  obtain ⟨csR, hrR⟩ := hRr
  have n1 : gP ≠ h := row_ne hrP hE.blk (by decide)
  have n2 : C ≠ h := row_ne hC.box hE.blk (by decide)
  have n3 : gR ≠ h := row_ne hrR hE.blk (by decide)
  have bC := hon.block C (Array.getElem?_eq_some_iff.1 hC.box).1 (by simpa using n2)
  have bR := hon.block gR (Array.getElem?_eq_some_iff.1 hrR).1 (by simpa using n3)
  have bP := hon.block gP (Array.getElem?_eq_some_iff.1 hrP).1 (by simpa using n1)
  refine ⟨[C, gR, gP, h, o2], ⟨⟨Pl, vR, gR, gP, capP, o2, cap2, ⟨bC.trans hC.box, ?_, ?_⟩, hgR, hE2, hPl, hP, rfl⟩, hM.fair⟩, ?_, ?_⟩
  · exact hC.reps.keep (fun g e => by rw [hgR] at e; injection e with e; subst e; exact bR)
  · exact hC.ps.keep (fun g e => by injection e with e; subst e; exact bP)
  · exact ⟨hon.os, hon.tape, hon.output, hon.size, fun k hk hX => hon.block k hk (fun h2 => hX (by simp at h2; simp [h2]))⟩
  · intro k hk
    simp only [List.mem_cons, List.not_mem_nil, or_false] at hk ⊢
    rcases hk with rfl | rfl | rfl | rfl | rfl
    · exact .inl (.inl rfl)
    · exact .inl (.inr (.inl rfl))
    · exact .inl (.inr (.inr (.inl rfl)))
    · exact .inl (.inr (.inr (.inr (.inl rfl))))
    · rcases ho with e | e
      · exact .inl (.inr (.inr (.inr (.inr e))))
      · exact .inr e
theorem replain_is {g C base h N : Nat} {lc lp pb st : Int} {r : R4} {x : (encIo g).S} {Y : List Nat} {w : World} (hM : RE w C base h N lc lp pb st r x Y) {k v m : Nat} (hok : (encIo g).ok x.2 (k + 34)) (hv : v < 4294967296) (hm : m ≤ 32) {s2 : (encIo g).σ} (hz : ((encIo g).plain x.2 v m).2 = s2) :
    Calls Tryz.prog 68 #[PF h, .int .u32 (v : Nat), .int .i64 (m : Nat)] w (RDone (.tuple #[]) C base h N lc lp pb st r (x.1, s2) Y w) ∧ (encIo g).ok s2 (k + 2) := by
  subst hz
  obtain ⟨o, cap, hE, hgo⟩ := hM.coder
  refine ⟨(rplain_any h m v o cap x.2 w hE hok.1 hv hm (by have := hok.2; omega)).mono ?_, (encIo g).okPlain hok hm⟩
  rintro e w' ⟨rfl, hd⟩
  exact ⟨rfl, hgo _ _ hd⟩
theorem big_n : ∀ (d : Nat), 4 ≤ d → ∃ n, 1 ≤ n ∧ 2 ≤ d / 2 ^ n ∧ d / 2 ^ n ≤ 3 := by
  intro d
  induction d using Nat.strongRecOn with
  | ind d ih =>
    intro h
    by_cases h3 : d / 2 ≤ 3
    · exact ⟨1, by omega, by simp; omega, by simp; omega⟩
    · obtain ⟨n, h1, h2, h4⟩ := ih (d / 2) (by omega) (by omega)
      refine ⟨n + 1, by omega, ?_, ?_⟩
      · rw [Nat.pow_succ, Nat.mul_comm, ← Nat.div_div_eq_div_mul]; exact h2
      · rw [Nat.pow_succ, Nat.mul_comm, ← Nat.div_div_eq_div_mul]; exact h4
/-- A slot and the bits behind it. -/
theorem big_slot {d : Nat} (h4 : 4 ≤ d) (hd : d < 4294967296) : ∃ n q, slotN d / 2 - 1 = n ∧ d / 2 ^ n = q ∧ 1 ≤ n ∧ n ≤ 30 ∧ 2 ≤ q ∧ q ≤ 3 ∧ slotN d = 2 * n + q := by
  obtain ⟨n, h1, h2, h3⟩ := big_n d h4
  obtain ⟨hs, _⟩ := slot_of h2 h3 hd h1
  have hn : slotN d / 2 - 1 = n := by omega
  have := slotN_lt hd
  exact ⟨n, _, hn, rfl, h1, by omega, h2, h3, hs⟩
theorem dist_enc (g l dd : Nat) (h1 : 1 ≤ dd) (h2 : dd ≤ 4294967295) (x : (encIo g).S) : (Md.dist (encIo g) l (dd : Nat) x).1 = dd := by
  obtain ⟨d, rfl⟩ : ∃ d, dd = d + 1 := ⟨dd - 1, by omega⟩
  have e0 : ((((d + 1 : Nat) : Int) - 1) % 4294967296).toNat = d := by omega
  have hsl := slotN_lt (d := d) (by omega)
  unfold Md.dist
  rw [e0]
  simp only
  rw [tree_enc _ _ _ _ (by omega)]
  by_cases h4 : d < 4
  · rw [show slotN d = d by unfold slotN; rw [if_pos h4], if_pos h4]
  · obtain ⟨n, q, hn, hq, n1, n30, q2, q3, hs⟩ := big_slot (d := d) (by omega) (by omega)
    rw [if_neg (by omega), hn]
    have hm : 2 + slotN d % 2 = q := by omega
    rw [hm]
    have hdm := Nat.div_add_mod d (2 ^ n)
    rw [hq, Nat.mul_comm] at hdm
    by_cases h14 : slotN d < 14
    · rw [if_pos h14]
      simp only
      rw [rev_enc]
      omega
    · rw [if_neg h14]
      simp only
      have e1 : ∀ (s : (encIo g).σ) (v m : Nat), ((encIo g).plain s v m).1 = v := fun _ _ _ => rfl
      rw [e1, rev_enc]
      have hV : d / 16 % 2 ^ (n - 4) < 2 ^ (n - 4) := Nat.mod_lt _ (Nat.pow_pos (by decide))
      rw [Nat.mod_eq_of_lt hV]
      have e2 : d % 2 ^ n = d / 16 % 2 ^ (n - 4) * 16 + d % 2 ^ 4 := by
        have e3 : 2 ^ n = 16 * 2 ^ (n - 4) := by
          rw [show (16 : Nat) = 2 ^ 4 from rfl, ← Nat.pow_add, show 4 + (n - 4) = n by omega]
        have h := Nat.div_add_mod (d % 2 ^ n) 16
        rw [e3, Nat.mod_mul_right_div_self, Nat.mod_mul_right_mod] at h
        rw [e3]
        omega
      omega
theorem bit_of_mod {v n i : Nat} (hi : i < n) : Md.bitOf ((v % 2 ^ n : Nat) : Int) i = Md.bitOf ((v : Nat) : Int) i := by
  have h1 := bitI_of (v % 2 ^ n) i
  have h2 := bitI_of v i
  rw [mod_bit v n i hi, h2] at h1
  cases ha : Md.bitOf ((v % 2 ^ n : Nat) : Int) i <;> cases hb : Md.bitOf ((v : Nat) : Int) i <;> rw [ha, hb] at h1 <;> first | rfl | (simp [bitI] at h1)
set_option maxRecDepth 100000 in
set_option maxHeartbeats 2000000 in
theorem redist_any {g C base h N : Nat} {lc lp pb st : Int} {r : R4} {x : (encIo g).S} {Y : List Nat} {w : World} (hM : RE w C base h N lc lp pb st r x Y) {k l dd : Nat} (hok : (encIo g).ok x.2 (k + 60)) (h2 : 2 ≤ l) (h3 : l ≤ 273) (hd1 : 1 ≤ dd) (hd2 : dd ≤ 4294967295) (hN : 2180 ≤ N) (hN2 : N ≤ 1000000) {z : (encIo g).S} (hz : (Md.dist (encIo g) l (dd : Nat) x).2 = z) :
    Calls Tryz.prog 48 #[PF C, PF h, .int .i64 (l : Nat), .int .i64 (dd : Nat)] w (MAnd ((encIo g).ok z.2 k) (RDone (.tuple #[]) C base h N lc lp pb st r z Y w)) := by
  obtain ⟨Q, hQ⟩ : ∃ Q, ((encIo g).ok z.2 k) = Q := ⟨_, rfl⟩
  rw [hQ]
  have HQ := Lib.hid hQ
  obtain ⟨d, rfl⟩ : ∃ d, dd = d + 1 := ⟨dd - 1, by omega⟩
  have e0 : ((((d + 1 : Nat) : Int) - 1) % 4294967296).toNat = d := by omega
  have hd32 : d < 4294967295 := by omega
  have hsl := slotN_lt (d := d) (by omega)
  obtain ⟨sl, hsl'⟩ : ∃ sl, slotN d = sl := ⟨_, rfl⟩
  rw [hsl'] at hsl
  obtain ⟨SL, hSL⟩ : ∃ SL, 1460 + 64 * min (l - 2) 3 = SL := ⟨_, rfl⟩
  have hSLb : 1460 ≤ SL ∧ SL ≤ 1652 := by omega
  obtain ⟨y, hy⟩ : ∃ y, (Md.tree (encIo g) SL 6 (sl : Nat) x).2 = y := ⟨_, rfl⟩
  unfold Md.dist at hz
  rw [e0] at hz
  simp only [hsl', hSL] at hz
  have h1 := tree_enc g SL sl 6 (by omega) x
  simp only [h1, hy] at hz
  have hyy : (Md.treeGo (encIo g) SL (sl : Nat) 6 1 x).2 = y := hy
  have HTR := Lib.hid (fun (w : World) (hM : RE w C base h N lc lp pb st r x Y) => retree_any hM (n := 6) (k := k + 51) hok (at_ := SL) (by omega) (by omega) hN2 sl (by omega) hyy)
  have HSLT := Lib.hid (fun w => rslots_any l h2 (by omega) w)
  rw [hSL] at HSLT
  have HM := Lib.hid hM
  have hsli : (sl : Int) < 64 := by omega
  have hdi : (d : Int) < 4294967295 := by omega
  have e1 : ((d + 1 : Nat) : Int) = (d : Int) + 1 := by omega
  have e2 : (d : Int) + 1 - 1 = (d : Int) := by omega
  rw [e1]
  have hli : (l : Int) ≤ 273 := by omega
  clear hQ hy h1 hyy hSL hM e0 e1 hd1 hd2 hok
  by_cases h4 : d < 4
  · have hs4 : sl = d := by rw [← hsl']; unfold slotN; rw [if_pos h4]
    rw [if_pos (by omega)] at hz
    have HSLO := Lib.hid (rslot_small d h4 w)
    unfold SlotDone at HSLO
    rw [hsl'] at HSLO
    have HZ : Hid (y = z) := Lib.hid hz
    clear hz hs4 hsl'
    go_enter Tryz.func48, Tryz.ntmps48
    go_wp2_with fail
    refine HSLO.out.mono ?_
    rintro e w1 ⟨rfl, rfl⟩
    go_wp2_with fail
    refine (HSLT.out w).mono ?_
    rintro e w1 ⟨rfl, rfl⟩
    go_wp2_with fail
    refine (HTR.out w HM.out).mono ?_
    rintro e w1 ⟨⟨rfl, hw1⟩, ok1⟩
    go_wp2_with fail
    refine bodyPost_ret_by (results_none rfl _ _ _) rfl ?_
    rw [HZ.out] at hw1 ok1
    exact ⟨⟨rfl, hw1⟩, by rw [← HQ.out]; exact (encIo g).le ok1 (by omega)⟩
  · obtain ⟨n, q, hn, hq, n1, n30, q2, q3, hs⟩ := big_slot (d := d) (by omega) (by omega)
    rw [hsl'] at hn hs
    have h4s : ¬ sl < 4 := by omega
    rw [if_neg h4s, hn] at hz
    have HSLO := Lib.hid (rslot_big d (by omega) (by omega) w)
    unfold SlotDone at HSLO
    rw [hsl', hn] at HSLO
    obtain ⟨rest, hrest⟩ : ∃ rest, d % 2 ^ n = rest := ⟨_, rfl⟩
    have hpn : 1 ≤ 2 ^ n := Nat.one_le_two_pow
    have hrl : rest < 2 ^ n := by rw [← hrest]; exact Nat.mod_lt _ hpn
    have hp30 : 2 ^ n ≤ 2 ^ 30 := Nat.pow_le_pow_right (by omega) n30
    have HTW := Lib.hid (fun w => two_any n n30 w)
    have htm : ((d : Nat) : Int).tmod ((2 ^ n : Nat) : Int) = (rest : Int) := by rw [Int.tmod_eq_emod_of_nonneg (by omega), ← hrest]; omega
    have hpz : ((2 ^ n : Nat) : Int) ≠ 0 := by omega
    have hri : (rest : Int) < 1073741824 := by omega
    have hni : (n : Int) ≤ 30 := by omega
    have hn1i : (1 : Int) ≤ (n : Int) := by omega
    have hn0 : ((n : Int) == 0) = false := beq_eq_false_iff_ne.2 (by omega)
    by_cases h14 : sl < 14
    · have h14i : (sl : Int) < 14 := by omega
      rw [if_pos h14] at hz
      have h5 : 2 ^ n ≤ 2 ^ 5 := Nat.pow_le_pow_right (by omega) (by omega)
      have HRT := Lib.hid (fun (w1 : World) (Y1 : List Nat) (hM1 : RE w1 C base h N lc lp pb st r y Y1) (hok1 : (encIo g).ok y.2 (k + 54)) => returned_any hM1 (n := n) (k := k) ((encIo g).le hok1 (by omega)) (at_ := 1716 + 32 * sl) (by omega) (by omega) hN2 rest d (by omega) (fun i hi => by rw [← hrest]; exact (bit_of_mod hi).symm) hz)
      have HLOW := Lib.hid (fun w => rlow_any sl hsl w)
      obtain ⟨LO, hLO⟩ : ∃ LO, 1716 + 32 * sl = LO := ⟨_, rfl⟩
      rw [hLO] at HRT HLOW
      obtain ⟨PW, hPW⟩ : ∃ PW, 2 ^ n = PW := ⟨_, rfl⟩
      rw [hPW] at HTW htm hpz
      clear hz hs hsl' hn hq hrest hrl hp30 hpn h5 hLO hPW h4 h4s h14
      go_enter Tryz.func48, Tryz.ntmps48
      go_wp2_with fail
      refine HSLO.out.mono ?_
      rintro e w1 ⟨rfl, rfl⟩
      go_wp2_with fail
      refine (HSLT.out w).mono ?_
      rintro e w1 ⟨rfl, rfl⟩
      go_wp2_with fail
      refine (HTR.out w HM.out).mono ?_
      rintro e w1 ⟨⟨rfl, Y1, hM1, hon1, hY1⟩, ok1⟩
      have HC := Lib.hid (HRT.out w1 Y1 hM1 ok1)
      have HO1 := Lib.hid (And.intro hon1 hY1)
      clear hM1 hon1 hY1 ok1
      go_wp2_with fail
      refine (HTW.out w1).mono ?_
      rintro e w2 ⟨rfl, rfl⟩
      go_wp2_with fail
      refine (HLOW.out w1).mono ?_
      rintro e w2 ⟨rfl, rfl⟩
      go_wp2_with fail
      refine HC.out.mono ?_
      rintro e w2 ⟨⟨rfl, hw2⟩, ok2⟩
      go_wp2_with fail
      refine bodyPost_ret_by (results_none rfl _ _ _) rfl ?_
      exact ⟨⟨rfl, WentR.trans HO1.out.1 HO1.out.2 hw2⟩, by rw [← HQ.out]; exact (encIo g).le ok2 (by omega)⟩
    · have h14b : decide ((sl : Int) < 14) = false := decide_eq_false (by omega)
      rw [if_neg h14] at hz
      obtain ⟨m, hm⟩ : ∃ m, n - 4 = m := ⟨_, rfl⟩
      have hmi : (n : Int) - 4 = (m : Int) := by omega
      rw [hm] at hz
      obtain ⟨V, hV⟩ : ∃ V, d / 16 % 2 ^ m = V := ⟨_, rfl⟩
      rw [hV] at hz
      have hVr : rest / 16 = V := by
        rw [← hrest, ← hV]
        have e3 : 2 ^ n = 16 * 2 ^ m := by
          rw [show (16 : Nat) = 2 ^ 4 from rfl, ← Nat.pow_add, show 4 + m = n by omega]
        rw [e3, Nat.mod_mul_right_div_self]
      have hVb : (V : Int) < 67108864 := by omega
      have hV0 : (rest : Int) / 16 = (V : Int) := by omega
      obtain ⟨s2, hs2⟩ : ∃ s2, ((encIo g).plain y.2 V m).2 = s2 := ⟨_, rfl⟩
      rw [hs2] at hz
      have HPL := Lib.hid (fun (w1 : World) (Y1 : List Nat) (hM1 : RE w1 C base h N lc lp pb st r y Y1) (hok1 : (encIo g).ok y.2 (k + 54)) => replain_is hM1 (k := k + 20) (v := V) (m := m) hok1 (by omega) (by omega) hs2)
      obtain ⟨r16, hr16⟩ : ∃ r16, rest % 16 = r16 := ⟨_, rfl⟩
      have hr16i : ((rest : Nat) : Int).tmod 16 = (r16 : Int) := by rw [Int.tmod_eq_emod_of_nonneg (by omega), ← hr16]; omega
      have HRT := Lib.hid (fun (w1 : World) (Y1 : List Nat) (hM1 : RE w1 C base h N lc lp pb st r (y.1, s2) Y1) (hok1 : (encIo g).ok s2 (k + 22)) => returned_any hM1 (x := (y.1, s2)) (n := 4) (k := k) ((encIo g).le hok1 (by omega)) (at_ := 2164) (by omega) (by omega) hN2 r16 d (by omega) (fun i hi => by
        rw [← hr16, ← hrest, show (16 : Nat) = 2 ^ 4 from rfl]
        rw [bit_of_mod hi, bit_of_mod (by omega)]) hz)
      have HAL := Lib.hid (fun w => ralign_any w)
      obtain ⟨PW, hPW⟩ : ∃ PW, 2 ^ n = PW := ⟨_, rfl⟩
      rw [hPW] at HTW htm hpz
      clear hz hs hsl' hn hq hrest hrl hp30 hpn hPW h4 h4s h14 hV hVr hs2 hm hr16
      go_enter Tryz.func48, Tryz.ntmps48
      go_wp2_with fail
      refine HSLO.out.mono ?_
      rintro e w1 ⟨rfl, rfl⟩
      go_wp2_with fail
      refine (HSLT.out w).mono ?_
      rintro e w1 ⟨rfl, rfl⟩
      go_wp2_with fail
      refine (HTR.out w HM.out).mono ?_
      rintro e w1 ⟨⟨rfl, Y1, hM1, hon1, hY1⟩, ok1⟩
      obtain ⟨hc, okc⟩ := HPL.out w1 Y1 hM1 ok1
      have HC := Lib.hid hc
      have HOKC := Lib.hid okc
      have HO1 := Lib.hid (And.intro hon1 hY1)
      clear hM1 hon1 hY1 ok1 hc okc
      go_wp2_with fail
      refine (HTW.out w1).mono ?_
      rintro e w2 ⟨rfl, rfl⟩
      go_wp2_with fail
      refine HC.out.mono ?_
      rintro e w2 ⟨rfl, hw2⟩
      obtain ⟨Y2, hM2, hon2, hY2⟩ := WentR.trans HO1.out.1 HO1.out.2 hw2
      have HC2 := Lib.hid (HRT.out w2 Y2 hM2 HOKC.out)
      have HO2 := Lib.hid (And.intro hon2 hY2)
      clear hM2 hon2 hY2 hw2
      go_wp2_with fail
      refine (HAL.out w2).mono ?_
      rintro e w3 ⟨rfl, rfl⟩
      go_wp2_with fail
      refine HC2.out.mono ?_
      rintro e w3 ⟨⟨rfl, hw3⟩, ok3⟩
      go_wp2_with fail
      go_end0
      exact ⟨⟨rfl, WentR.trans HO2.out.1 HO2.out.2 hw3⟩, by rw [← HQ.out]; exact (encIo g).le ok3 (by omega)⟩
end Go.Proofs.YtklkboplkobhgaaGreat

/- The reference's literals. -/
namespace Go.Proofs.YtklkboplkobhgaaGreat
set_option maxRecDepth 100000
open Go.RowKit

theorem litGo_false (io : Io) (T like : Nat) (v : Int) : ∀ n m (x : io.S), Md.litGo io T like v n m false x = Md.treeGo io T v n m x
  | 0, m, x => rfl
  | n + 1, m, x => by
    unfold Md.litGo Md.treeGo
    simp only [Bool.false_eq_true, if_false, Bool.false_and]
    exact litGo_false io T like v n _ _
theorem litGo_enc (g T like v : Nat) : ∀ n m al (x : (encIo g).S), (Md.litGo (encIo g) T like (v : Nat) n m al x).1 = m * 2 ^ n + v % 2 ^ n
  | 0, m, al, x => by unfold Md.litGo; simp; omega
  | n + 1, m, al, x => by
    unfold Md.litGo
    rw [litGo_enc g T like v n]
    have e : ∀ i (x : (encIo g).S), ((encIo g).bitAt i (Md.bitOf (v : Nat) n) x).1 = Md.bitOf (v : Nat) n := fun _ _ => rfl
    rw [e, bit_toNat, Nat.mod_pow_succ, Nat.pow_succ, Nat.add_mul]
    generalize v / 2 ^ n % 2 = B
    rw [Nat.mul_comm 2 m, Nat.mul_assoc, Nat.mul_comm 2 (2 ^ n), Nat.mul_comm B]
    omega
theorem lit_enc (g lc lp st : Nat) (a : Int) (H : List UInt8) (b : UInt8) (x : (encIo g).S) : (Md.lit (encIo g) lc lp st a H (b.toNat : Nat) x).1 = b := by
  unfold Md.lit
  simp only
  rw [litGo_enc]
  have hb := b.toNat_lt
  apply UInt8.toNat_inj.1
  rw [UInt8.toNat_ofNat']
  omega
theorem RE.rep0 {C base h N : Nat} {lc lp pb st : Int} {r : R4} {x : (Nat → Nat) × Rc.St} {Y : List Nat} {w : World} (hM : RE w C base h N lc lp pb st r x Y) : ∃ gR cap, w.cell? ⟨C, 4, none⟩ = some (.slice (some ⟨gR, 0, none⟩) 4 cap) ∧ 4 ≤ cap ∧ cap ≤ 9223372036854775807 ∧ w.cell? ⟨gR, 0, none⟩ = some (.int .i64 r.1) := by
  obtain ⟨Pl, vR, gR, gP, capP, o, cap, hC, _⟩ := hM.ex
  obtain ⟨_, c4, _, _, g, cap', rfl, h4, hm, h0, _⟩ := hC.cells
  exact ⟨g, cap', c4, h4, hm, h0⟩
theorem div_step {v L j : Nat} : decide (v / 2 ^ j = L / 2 ^ j) = (decide (v / 2 ^ (j + 1) = L / 2 ^ (j + 1)) && (v / 2 ^ j % 2 == L / 2 ^ j % 2)) := by
  have e1 : v / 2 ^ (j + 1) = v / 2 ^ j / 2 := by rw [Nat.div_div_eq_div_mul, ← Nat.pow_succ]
  have e2 : L / 2 ^ (j + 1) = L / 2 ^ j / 2 := by rw [Nat.div_div_eq_div_mul, ← Nat.pow_succ]
  rw [e1, e2, Bool.eq_iff_iff]
  generalize v / 2 ^ j = a
  generalize L / 2 ^ j = b
  simp
  omega
theorem wentR_undrew {C base h N : Nat} {lc lp pb st : Int} {r : R4} {x : (Nat → Nat) × Rc.St} {Y : List Nat} {w w' : World} {n : Nat} (hw : WentR C base h N lc lp pb st r x Y (w.drewN n) w') : WentR C base h N lc lp pb st r x Y w w' := by
  obtain ⟨Y', hM, hon, hY⟩ := hw
  exact ⟨Y', hM, Only.undrewN hon, hY⟩
theorem RE.drewN {C base h N : Nat} {lc lp pb st : Int} {r : R4} {x : (Nat → Nat) × Rc.St} {Y : List Nat} {w : World} (hM : RE w C base h N lc lp pb st r x Y) (n : Nat) : RE (w.drewN n) C base h N lc lp pb st r x Y := by
  obtain ⟨Pl, vR, gR, gP, capP, o, cap, hC, hgR, hE, hPl, hP, hY⟩ := hM.ex
  exact ⟨⟨Pl, vR, gR, gP, capP, o, cap, ⟨hC.box, hC.reps, hC.ps⟩, hgR, ⟨hE.blk, hE.own, hE.ne⟩, hPl, hP, hY⟩, hM.fair⟩
set_option maxRecDepth 100000 in
set_option maxHeartbeats 4000000 in
theorem relit_any {g C base h N lc lp pb st : Nat} {r : R4} {x : (encIo g).S} {Y : List Nat} {w : World} (hM : RE w C base h N (lc : Nat) (lp : Nat) (pb : Nat) (st : Nat) r x Y) (hlc : lc ≤ 4) (hlp : lp ≤ 4) (hst : st < 12) (hr1 : 1 ≤ r.1) (hr2 : r.1 ≤ 4294967296) {k : Nat} (hok : (encIo g).ok x.2 (k + 20)) (A : Option Addr) (H : List UInt8) (c : Nat) (hB : Bytes w A H) (hc : H.length ≤ c) (hH : H.length ≤ 1000000000)
    (hN : N = 2180 + 768 * 2 ^ (lc + lp)) (hN2 : N ≤ 1000000) (b : UInt8) {z : (encIo g).S} (hz : (Md.lit (encIo g) lc lp st r.1 H (b.toNat : Nat) x).2 = z) :
    Calls Tryz.prog 44 #[PF C, PF h, .slice A H.length c, .int .i64 (b.toNat : Nat)] w (MAnd ((encIo g).ok z.2 k) (RDone (.tuple #[]) C base h N (lc : Nat) (lp : Nat) (pb : Nat) (st : Nat) r z Y w)) := by
  obtain ⟨Q, hQ⟩ : ∃ Q, ((encIo g).ok z.2 k) = Q := ⟨_, rfl⟩
  rw [hQ]
  have HQ := Lib.hid hQ
  obtain ⟨v, hv⟩ : ∃ v, b.toNat = v := ⟨_, rfl⟩
  have hv256 : v < 256 := by rw [← hv]; exact b.toNat_lt
  rw [hv] at hz ⊢
  have HTB := Lib.hid (rtable_any hM hlc hlp A H c hB hc hH)
  have hck := ctxN_lt (lp := lp) H (show lc ≤ 8 by omega)
  unfold Md.lit at hz
  obtain ⟨K, hK⟩ : ∃ K, ctxN lc lp H = K := ⟨_, rfl⟩
  rw [hK] at HTB hck
  simp only [hK] at hz
  obtain ⟨T, hT⟩ : ∃ T, 2180 + 768 * K = T := ⟨_, rfl⟩
  rw [hT] at HTB hz
  have hTN : T + 768 ≤ N := by omega
  have HTN := Lib.hid hTN
  have hTi : (T : Int) ≤ 1000000 := by omega
  have hsti : (st : Int) < 12 := by omega
  have hvi : (v : Int) < 256 := by omega
  obtain ⟨LK, hLK⟩ : ∃ LK, Md.likeN H r.1 = LK := ⟨_, rfl⟩
  have hLK256 : LK < 256 := by rw [← hLK]; exact Md.likeN_lt H r.1
  simp only [hLK] at hz
  have HBK := Lib.hid (fun (w1 : World) (hb : Below w.heap.size w w1) => back_any A H c r.1 w1 (hB.below hb) hc hH hr1 hr2)
  rw [hLK] at HBK
  have HLT : Hid (∀ i ∈ Y, i < w.heap.size) := Lib.hid (by
    obtain ⟨Pl, vR, gR, gP, capP, o, cap, hC, hgR, hE, hPl, hP, rfl⟩ := hM.ex
    intro i hi
    simp only [List.mem_cons, List.not_mem_nil, or_false] at hi
    rcases hi with rfl | rfl | rfl | rfl | rfl
    · exact hC.lt
    · exact (hC.reps.lt _ hgR).2
    · exact (hC.ps.lt _ rfl).2
    · exact (Array.getElem?_eq_some_iff.1 hE.blk).1
    · obtain ⟨cs, hcs⟩ := hE.row
      exact (Array.getElem?_eq_some_iff.1 hcs).1)
  have HKEEP : Hid (∀ w1, Below w.heap.size w w1 → RE w1 C base h N (lc : Nat) (lp : Nat) (pb : Nat) (st : Nat) r x Y) := Lib.hid (fun w1 hb => by
    obtain ⟨Pl, vR, gR, gP, capP, o, cap, hC, hgR, hE, hPl, hP, hY⟩ := hM.ex
    obtain ⟨cs, hcs⟩ := hE.row
    exact ⟨⟨Pl, vR, gR, gP, capP, o, cap, hC.below hb, hgR, hE.keep2 (hb.block _ (Array.getElem?_eq_some_iff.1 hE.blk).1) (hb.block _ (Array.getElem?_eq_some_iff.1 hcs).1), hPl, hP, hY⟩, hM.fair⟩)
  have HOK := Lib.hid hok
  clear hQ hM hok hB hK hck hT hLK hTN hN
  by_cases h7 : st < 7
  · have h7b : decide ((st : Int) < 7) = true := decide_eq_true (by omega)
    rw [show decide (7 ≤ st) = false from decide_eq_false (by omega), litGo_false] at hz
    have HZ := Lib.hid hz
    clear hz h7
    go_enter Tryz.func44, Tryz.ntmps44
    go_wp2_with fail
    refine HTB.out.mono ?_
    rintro e w1 ⟨rfl, hb1⟩
    have hM1 := HKEEP.out w1 hb1
    obtain ⟨_, _, _, c3⟩ := hM1.heads
    have HC := Lib.hid (retree_any hM1 (n := 8) (k := k + 9) HOK.out (at_ := T) (by omega) (by have := HTN.out; omega) hN2 v (by omega) HZ.out)
    have HB1 := Lib.hid hb1
    clear hM1 hb1
    go_wp2_with fail
    refine HC.out.mono ?_
    rintro e w2 ⟨⟨rfl, Y2, hM2, hon2, hY2⟩, ok2⟩
    go_wp2_with fail
    refine bodyPost_ret_by (results_none rfl _ _ _) rfl ?_
    exact ⟨⟨rfl, Y2, hM2, (Only.of_below HB1.out).trans hon2 (fun i hi => .inl hi), fun i hi => by rcases hY2 i hi with h | h; exact .inl h; exact .inr (Nat.le_trans HB1.out.size h)⟩, by rw [← HQ.out]; exact (encIo g).le ok2 (by omega)⟩
  · have h7b : decide ((st : Int) < 7) = false := decide_eq_false (by omega)
    rw [show decide (7 ≤ st) = true from decide_eq_true (by omega)] at hz
    have HZ : Hid ((Md.litGo (encIo g) T LK (v : Nat) 8 1 (decide (v / 2 ^ 8 = LK / 2 ^ 8)) x).2 = z) := Lib.hid (by
      rw [show decide (v / 2 ^ 8 = LK / 2 ^ 8) = true from decide_eq_true (by omega)]; exact hz)
    clear hz h7
    go_enter Tryz.func44, Tryz.ntmps44
    go_wp2_with fail
    refine HTB.out.mono ?_
    rintro e w1 ⟨rfl, hb1⟩
    have hM1 := HKEEP.out w1 hb1
    obtain ⟨_, _, _, c3⟩ := hM1.heads
    obtain ⟨gR, capR, c4, hcr4, hcrm, cr0⟩ := hM1.rep0
    have hcr4i : (4 : Int) ≤ (capR : Int) := by omega
    have HM1 := Lib.hid hM1
    have HBK1 := Lib.hid (HBK.out w1 hb1)
    have HB1 := Lib.hid hb1
    clear hM1 hb1 hcr4 hcrm
    go_wp2_with fail
    refine HBK1.out.mono ?_
    rintro e w2 ⟨rfl, rfl⟩
    go_wp2_with fail
    clear c3 c4 cr0 hcr4i
    go_loopw [10, 11] (fun ms i wr => ∃ (j m : Nat) (x' : (encIo g).S) (Y' : List Nat), j ≤ 8 ∧ ms = .int .i64 (m : Nat) ∧ i = .int .i64 ((j : Int) - 1) ∧ 2 ^ (8 - j) ≤ m ∧ m < 2 ^ (8 - j) * 2 ∧ Hid ((encIo g).ok x'.2 (k + 9 + j + 3)) ∧ Hid ((Md.litGo (encIo g) T LK (v : Nat) j m (decide (v / 2 ^ j = LK / 2 ^ j)) x').2 = z) ∧ Hid (RE wr C base h N (lc : Nat) (lp : Nat) (pb : Nat) (st : Nat) r x' Y' ∧ Only Y w1 wr ∧ ∀ i ∈ Y', i ∈ Y ∨ w1.heap.size ≤ i)) (fun _ i _ => (intOf i + 1).toNat)
    case atStart => exact ⟨8, 1, x, Y, Nat.le_refl _, rfl, by go_num, by decide, by decide, HOK, HZ, Lib.hid ⟨HM1.out, Only.refl _ _, fun i hi => .inl hi⟩⟩
    case round =>
      obtain ⟨j, m, x', Y', hj, rfl, rfl, hm1, hm2, HOKJ, HT, HM⟩ := hrel
      cases j with
      | zero =>
        clear hm1 hm2
        go_wp2_with fail
        go_end0
        have hzz : x' = z := HT.out
        have ho := HOKJ.out
        rw [← hzz] at HQ ⊢
        exact ⟨⟨rfl, Y', HM.out.1, (Only.of_below HB1.out).trans HM.out.2.1 (fun i hi => .inl hi), fun i hi => by rcases HM.out.2.2 i hi with h | h; exact .inl h; exact .inr (Nat.le_trans HB1.out.size h)⟩, by rw [← HQ.out]; exact (encIo g).le ho (by omega)⟩
      | succ j =>
        have hm256 : m < 256 := by
          have e : 2 ^ (8 - (j + 1)) * 2 = 2 ^ (8 - j) := by rw [← Nat.pow_succ]; congr 1; omega
          have : 2 ^ (8 - j) ≤ 2 ^ 8 := Nat.pow_le_pow_right (by omega) (by omega)
          omega
        have hmi : (m : Int) < 256 := by omega
        have hj8 : (j : Int) < 8 := by omega
        obtain ⟨B, hB⟩ : ∃ B, v / 2 ^ j % 2 = B := ⟨_, rfl⟩
        obtain ⟨L, hL⟩ : ∃ L, LK / 2 ^ j % 2 = L := ⟨_, rfl⟩
        have hB1 : B ≤ 1 := by omega
        have hL1 : L ≤ 1 := by omega
        have hBi : (B : Int) ≤ 1 := by omega
        have hk4 : k + 9 + j + 1 + 3 = k + 9 + (j + 1) + 3 := by omega
        have haN : ∀ e, e ≤ 767 → T + e < N := fun e he => by have := HTN.out; omega
        have hidx : m + (256 + 256 * L) ≤ 767 := by omega
        have hidx2 : m ≤ 767 := by omega
        have HTWO := Lib.hid (two_any j (by omega) wr)
        obtain ⟨j1, hj1⟩ : ∃ j1, j + 1 = j1 := ⟨_, rfl⟩
        have HTWQ := Lib.hid (fun (n : Nat) => show Calls Tryz.prog 29 #[.int .i64 (j1 : Nat)] (wr.drewN n) fun e w'' => e = .returned (.int .i64 (2 ^ (j + 1) : Nat)) ∧ ∃ m, w'' = wr.drewN m from by rw [← hj1]; exact (two_any (j + 1) (by omega) (wr.drewN n)).mono fun e w' h => ⟨h.1, n, h.2.symm⟩)
        have hwj : IntKind.i64.wrap ((j : Int) + 1) = (j1 : Int) := by rw [IntKind.wrap_i64]; omega
        clear hj1
        have hpw : ((2 ^ j : Nat) : Int) ≠ 0 := by have := Nat.one_le_two_pow (n := j); omega
        have HDV := Lib.hid (tdiv_bit (by omega) hB)
        have HDL := Lib.hid (tdiv_bit (by omega) hL)
        have HHB := Lib.hid hB
        have HHL := Lib.hid hL
        have HPW := Lib.hid hpw
        clear hB hL hpw
        by_cases heq : v / 2 ^ (j + 1) = LK / 2 ^ (j + 1)
        · have HEQ := Lib.hid heq
          clear heq
          have hal : decide (v / 2 ^ (j + 1) = LK / 2 ^ (j + 1)) = true := decide_eq_true HEQ.out
          obtain ⟨ai, hai⟩ : ∃ ai, T + (m + (256 + 256 * L)) = ai := ⟨_, rfl⟩
          have haiN : ai < N := by rw [← hai]; exact haN _ hidx
          obtain ⟨y, hy⟩ : ∃ y, ((encIo g).bitAt ai (Md.bitOf (v : Nat) j) x').2 = y := ⟨_, rfl⟩
          obtain ⟨_, okb⟩ := rebit_is HM.out.1 (k := k + 9 + j + 1) (by rw [hk4]; exact HOKJ.out) (i := ai) haiN (Md.bitOf (v : Nat) j) hy
          have HT2 : Hid ((Md.litGo (encIo g) T LK (v : Nat) j (2 * m + B) (decide (v / 2 ^ j = LK / 2 ^ j)) y).2 = z) := Lib.hid (by
            rw [← HT.out]
            conv => rhs; unfold Md.litGo
            rw [div_step, hal, HHL.out, HHB.out]
            simp only [if_true]
            rw [hai, hy]
            have e : ((encIo g).bitAt ai (Md.bitOf (v : Nat) j) x').1.toNat = B := by rw [← HHB.out, ← bit_toNat]; rfl
            rw [e])
          have HBITD := Lib.hid (fun (n : Nat) => show Calls Tryz.prog 42 #[PF C, PF h, .int .i64 (ai : Nat), .int .i64 (B : Nat)] (wr.drewN n) (RDone (.tuple #[]) C base h N (lc : Nat) (lp : Nat) (pb : Nat) (st : Nat) r y Y' (wr.drewN n)) from by
            have hb := (rebit_is (HM.out.1.drewN n) (k := k + 9 + j + 1) (by rw [hk4]; exact HOKJ.out) (i := ai) haiN (Md.bitOf (v : Nat) j) hy).1
            rw [← bitI_of, HHB.out] at hb
            exact hb)
          have HOK2 := Lib.hid okb
          have HS1 := Lib.hid hm1
          have HS2 := Lib.hid hm2
          obtain ⟨q1, hq1⟩ : ∃ q, v / 2 ^ (j + 1) = q := ⟨_, rfl⟩
          obtain ⟨q2, hq2⟩ : ∃ q, LK / 2 ^ (j + 1) = q := ⟨_, rfl⟩
          rw [hq1, hq2] at hal
          have HQ1 := Lib.hid hq1
          have HQ2 := Lib.hid hq2
          clear hq1 hq2
          have hqq : ((q1 : Int) == (q2 : Int)) = true := by
            have := of_decide_eq_true hal
            rw [this]; simp
          obtain ⟨T1, hT1⟩ : ∃ T1, T + 256 = T1 := ⟨_, rfl⟩
          obtain ⟨L1, hL1'⟩ : ∃ L1, 256 * L = L1 := ⟨_, rfl⟩
          obtain ⟨T2, hT2'⟩ : ∃ T2, T1 + L1 = T2 := ⟨_, rfl⟩
          have hT1i : (T : Int) + 256 = (T1 : Int) := by omega
          have hL1i : 256 * (L : Int) = (L1 : Int) := by omega
          have hT2i : (T1 : Int) + (L1 : Int) = (T2 : Int) := by omega
          have haii : (T2 : Int) + (m : Int) = (ai : Int) := by omega
          have hT1b : (T1 : Int) ≤ 2000000 := by omega
          have hL1b : (L1 : Int) ≤ 2000000 := by omega
          have hT2b : (T2 : Int) ≤ 4000000 := by omega
          have haib : (ai : Int) ≤ 5000000 := by omega
          have hLi : (L : Int) ≤ 1 := by omega
          clear hT1 hL1' hT2'
          have hw1 : IntKind.i64.wrap ((v : Int) / ((2 ^ (j + 1) : Nat) : Int)) = (q1 : Int) := by
            have h0 : v / 2 ^ (j + 1) ≤ v := Nat.div_le_self _ _
            rw [HQ1.out] at h0
            rw [show (v : Int) / ((2 ^ (j + 1) : Nat) : Int) = ((v / 2 ^ (j + 1) : Nat) : Int) by simp, HQ1.out, IntKind.wrap_i64]
            omega
          have hw2 : IntKind.i64.wrap ((LK : Int) / ((2 ^ (j + 1) : Nat) : Int)) = (q2 : Int) := by
            have h0 : LK / 2 ^ (j + 1) ≤ LK := Nat.div_le_self _ _
            rw [HQ2.out] at h0
            rw [show (LK : Int) / ((2 ^ (j + 1) : Nat) : Int) = ((LK / 2 ^ (j + 1) : Nat) : Int) by simp, HQ2.out, IntKind.wrap_i64]
            omega
          have hp2 : ((2 ^ (j + 1) : Nat) : Int) ≠ 0 := by have := Nat.one_le_two_pow (n := j + 1); omega
          have HTWD := Lib.hid (fun (n : Nat) => two_any j (by omega) (wr.drewN n))
          obtain ⟨q0, hq0⟩ : ∃ q, LK / 2 ^ j = q := ⟨_, rfl⟩
          have HD1 : Hid ((LK : Int) / ((2 ^ j : Nat) : Int) = (q0 : Int)) := Lib.hid (by rw [← hq0]; simp)
          have HD2 : Hid (((q0 : Nat) : Int).tmod 2 = (L : Int)) := Lib.hid (by rw [Int.tmod_eq_emod_of_nonneg (Int.natCast_nonneg _), ← HHL.out, hq0]; exact (Int.natCast_emod q0 2).symm)
          have hq0l : q0 ≤ LK := by rw [← hq0]; exact Nat.div_le_self _ _
          have hq0b : (q0 : Int) < 256 := by clear hq0; omega
          have HPZ : Hid (((2 ^ j : Nat) : Int) ≠ 0) := Lib.hid HPW.out
          clear hq0
          have hdv := HDV.out
          have hpw := HPW.out
          obtain ⟨PW, hPW⟩ : ∃ PW, 2 ^ j = PW := ⟨_, rfl⟩
          obtain ⟨P2, hP2⟩ : ∃ PW, 2 ^ (j + 1) = PW := ⟨_, rfl⟩
          rw [hPW] at HTWD
          rw [hPW] at HTWO hpw hdv HD1 HPZ
          rw [hP2] at HTWQ hp2 hw1 hw2
          clear okb hm1 hm2 hy hal hai hPW hP2
          go_wp2_with fail
          refine HTWO.out.mono ?_
          rintro e w2 ⟨rfl, rfl⟩
          go_upto_region 9 with fail
          go_quiet (with_reducible exact HTWQ.out _)
          clear hdv hp2 hw1 hw2 hwj hqq hidx hidx2 haN haiN HTWQ hpw
          go_wp2_with fail
          refine (HTWD.out _).mono ?_
          rintro e w2 ⟨rfl, rfl⟩
          have hd1 := HD1.out
          have hd2 := HD2.out
          have hpz := HPZ.out
          go_wp2_with fail
          refine (HBITD.out _).mono ?_
          rintro e w2 ⟨rfl, hw2'⟩
          have HW := Lib.hid (WentR.trans HM.out.2.1 HM.out.2.2 (wentR_undrew hw2'))
          clear hw2'
          go_wp2_with fail
          clear hd1 hd2 hpz
          obtain ⟨Y3, hM3, hon3, hY3⟩ := HW.out
          have e2 : 2 ^ (8 - j) = 2 ^ (8 - (j + 1)) * 2 := by rw [← Nat.pow_succ]; congr 1; omega
          exact ⟨⟨j, 2 * m + B, y, Y3, by omega, by go_num, by go_num, by have := HS1.out; omega, by have := HS2.out; omega, HOK2, HT2, Lib.hid ⟨hM3, hon3, hY3⟩⟩, by simp [intOf] <;> omega⟩
        · have HEQ := Lib.hid heq
          clear heq
          have hal : decide (v / 2 ^ (j + 1) = LK / 2 ^ (j + 1)) = false := decide_eq_false HEQ.out
          obtain ⟨ai, hai⟩ : ∃ ai, T + (m) = ai := ⟨_, rfl⟩
          have haiN : ai < N := by rw [← hai]; exact haN _ hidx2
          obtain ⟨y, hy⟩ : ∃ y, ((encIo g).bitAt ai (Md.bitOf (v : Nat) j) x').2 = y := ⟨_, rfl⟩
          obtain ⟨_, okb⟩ := rebit_is HM.out.1 (k := k + 9 + j + 1) (by rw [hk4]; exact HOKJ.out) (i := ai) haiN (Md.bitOf (v : Nat) j) hy
          have HT2 : Hid ((Md.litGo (encIo g) T LK (v : Nat) j (2 * m + B) (decide (v / 2 ^ j = LK / 2 ^ j)) y).2 = z) := Lib.hid (by
            rw [← HT.out]
            conv => rhs; unfold Md.litGo
            rw [div_step, hal, HHL.out, HHB.out]
            simp only [if_false, Bool.false_eq_true]
            rw [hai, hy]
            have e : ((encIo g).bitAt ai (Md.bitOf (v : Nat) j) x').1.toNat = B := by rw [← HHB.out, ← bit_toNat]; rfl
            rw [e])
          have HBITD := Lib.hid (fun (n : Nat) => show Calls Tryz.prog 42 #[PF C, PF h, .int .i64 (ai : Nat), .int .i64 (B : Nat)] (wr.drewN n) (RDone (.tuple #[]) C base h N (lc : Nat) (lp : Nat) (pb : Nat) (st : Nat) r y Y' (wr.drewN n)) from by
            have hb := (rebit_is (HM.out.1.drewN n) (k := k + 9 + j + 1) (by rw [hk4]; exact HOKJ.out) (i := ai) haiN (Md.bitOf (v : Nat) j) hy).1
            rw [← bitI_of, HHB.out] at hb
            exact hb)
          have HOK2 := Lib.hid okb
          have HS1 := Lib.hid hm1
          have HS2 := Lib.hid hm2
          obtain ⟨q1, hq1⟩ : ∃ q, v / 2 ^ (j + 1) = q := ⟨_, rfl⟩
          obtain ⟨q2, hq2⟩ : ∃ q, LK / 2 ^ (j + 1) = q := ⟨_, rfl⟩
          rw [hq1, hq2] at hal
          have HQ1 := Lib.hid hq1
          have HQ2 := Lib.hid hq2
          clear hq1 hq2
          have hqq : ((q1 : Int) == (q2 : Int)) = false := by
            have := of_decide_eq_false hal
            rw [beq_eq_false_iff_ne]; omega
          have haii : (T : Int) + (m : Int) = (ai : Int) := by omega
          have hw1 : IntKind.i64.wrap ((v : Int) / ((2 ^ (j + 1) : Nat) : Int)) = (q1 : Int) := by
            have h0 : v / 2 ^ (j + 1) ≤ v := Nat.div_le_self _ _
            rw [HQ1.out] at h0
            rw [show (v : Int) / ((2 ^ (j + 1) : Nat) : Int) = ((v / 2 ^ (j + 1) : Nat) : Int) by simp, HQ1.out, IntKind.wrap_i64]
            omega
          have hw2 : IntKind.i64.wrap ((LK : Int) / ((2 ^ (j + 1) : Nat) : Int)) = (q2 : Int) := by
            have h0 : LK / 2 ^ (j + 1) ≤ LK := Nat.div_le_self _ _
            rw [HQ2.out] at h0
            rw [show (LK : Int) / ((2 ^ (j + 1) : Nat) : Int) = ((LK / 2 ^ (j + 1) : Nat) : Int) by simp, HQ2.out, IntKind.wrap_i64]
            omega
          have hp2 : ((2 ^ (j + 1) : Nat) : Int) ≠ 0 := by have := Nat.one_le_two_pow (n := j + 1); omega
          have hdv := HDV.out
          have hpw := HPW.out
          obtain ⟨PW, hPW⟩ : ∃ PW, 2 ^ j = PW := ⟨_, rfl⟩
          obtain ⟨P2, hP2⟩ : ∃ PW, 2 ^ (j + 1) = PW := ⟨_, rfl⟩
          rw [hPW] at HTWO hpw hdv
          rw [hP2] at HTWQ hp2 hw1 hw2
          clear okb hm1 hm2 hy hal hai hPW hP2
          go_wp2_with fail
          refine HTWO.out.mono ?_
          rintro e w2 ⟨rfl, rfl⟩
          go_upto_region 9 with fail
          go_quiet (with_reducible exact HTWQ.out _)
          clear hdv hpw hp2 hw1 hw2 hwj hqq hidx hidx2 haN haiN HTWQ
          go_wp2_with fail
          refine (HBITD.out _).mono ?_
          rintro e w2 ⟨rfl, hw2'⟩
          have HW := Lib.hid (WentR.trans HM.out.2.1 HM.out.2.2 (wentR_undrew hw2'))
          clear hw2'
          go_wp2_with fail
          obtain ⟨Y3, hM3, hon3, hY3⟩ := HW.out
          have e2 : 2 ^ (8 - j) = 2 ^ (8 - (j + 1)) * 2 := by rw [← Nat.pow_succ]; congr 1; omega
          exact ⟨⟨j, 2 * m + B, y, Y3, by omega, by go_num, by go_num, by have := HS1.out; omega, by have := HS2.out; omega, HOK2, HT2, Lib.hid ⟨hM3, hon3, hY3⟩⟩, by simp [intOf] <;> omega⟩
end Go.Proofs.YtklkboplkobhgaaGreat

/- A symbol that is coded comes back as it was asked. -/
namespace Go.Proofs.YtklkboplkobhgaaGreat
set_option maxRecDepth 100000
open Go.RowKit

theorem which_enc (g st q : Nat) (hq : q ≤ 3) (x : (encIo g).S) : (Md.which (encIo g) st (q : Nat) x).1 = q := by
  have b0 : ∀ i b y, ((encIo g).bitAt i b y).1 = b := fun _ _ _ => rfl
  unfold Md.which
  simp only [b0]
  have h : q = 0 ∨ q = 1 ∨ q = 2 ∨ q = 3 := by omega
  rcases h with rfl | rfl | rfl | rfl <;> rfl
theorem rept_enc (g st p q l : Nat) (hq : q ≤ 3) (h1 : 1 ≤ l) (h2 : q ≠ 0 → 2 ≤ l) (h3 : l ≤ 273) (x : (encIo g).S) : (Md.rept (encIo g) st p (l : Nat) (q : Nat) x).1 = (q, l) := by
  have b0 : ∀ i b y, ((encIo g).bitAt i b y).1 = b := fun _ _ _ => rfl
  unfold Md.rept
  simp only [which_enc g st q hq, b0]
  by_cases h0 : q = 0
  · rw [if_pos h0]
    by_cases hl : l = 1
    · subst hl
      simp [h0]
    · have hb : ((l : Int) != 1) = true := by
        simp only [bne_iff_ne, ne_eq]
        omega
      rw [if_neg (by rw [hb]; decide)]
      simp only [len_enc g 946 p l (by omega) h3]
      rw [h0]
  · rw [if_neg h0]
    simp only [len_enc g 946 p l (h2 h0) h3]
theorem sym_lit_enc (g lc lp pb st : Nat) (r : R4) (H : List UInt8) (b : UInt8) (l d q : Int) (x : (encIo g).S) : ∃ z, Md.sym (encIo g) lc lp pb st r H 0 b l d q x = (⟨0, b, 0, 0, 0⟩, litState st, r, z) ∧ z = (Md.lit (encIo g) lc lp st r.1 H (b.toNat : Nat) ((encIo g).bitAt (16 * st + H.length % 2 ^ pb) false x).2).2 := by
  refine ⟨_, ?_, rfl⟩
  have b0 : ∀ i b y, ((encIo g).bitAt i b y).1 = b := fun _ _ _ => rfl
  unfold Md.sym
  simp only [b0, show ((0 : Int) != 0) = false from rfl, if_true]
  rw [lit_enc]
theorem sym_match_enc (g lc lp pb st : Nat) (r : R4) (H : List UInt8) (b : UInt8) (l d : Nat) (q : Int) (h2 : 2 ≤ l) (h3 : l ≤ 273) (h4 : 1 ≤ d) (h5 : d ≤ 4294967295) (x : (encIo g).S) : ∃ z, Md.sym (encIo g) lc lp pb st r H 1 b (l : Nat) (d : Nat) q x = (⟨1, 0, l, d, 0⟩, (if st < 7 then 7 else 10), frontR r 3 (d : Nat), z) ∧ z = (Md.dist (encIo g) l (d : Nat) (Md.len (encIo g) 432 (H.length % 2 ^ pb) (l : Nat) ((encIo g).bitAt (192 + st) false ((encIo g).bitAt (16 * st + H.length % 2 ^ pb) true x).2).2).2).2 := by
  refine ⟨_, ?_, rfl⟩
  have b0 : ∀ i b y, ((encIo g).bitAt i b y).1 = b := fun _ _ _ => rfl
  unfold Md.sym
  simp only [b0, show ((1 : Int) != 0) = true from rfl, show ((1 : Int) != 1) = false from rfl, Bool.true_eq_false, if_false, if_true]
  simp only [len_enc g 432 _ l h2 h3, dist_enc g l d h4 h5]
theorem sym_rept_enc (g lc lp pb st : Nat) (r : R4) (H : List UInt8) (b : UInt8) (l q : Nat) (d : Int) (hq : q ≤ 3) (h1 : 1 ≤ l) (h2 : q ≠ 0 → 2 ≤ l) (h3 : l ≤ 273) (x : (encIo g).S) : ∃ z, Md.sym (encIo g) lc lp pb st r H 2 b (l : Nat) d (q : Nat) x = (⟨2, 0, l, 0, q⟩, (if st < 7 then (if l = 1 then 9 else 8) else 11), frontR r q (r4 r.1 r.2.1 r.2.2.1 r.2.2.2 q), z) ∧ z = (Md.rept (encIo g) st (H.length % 2 ^ pb) (l : Nat) (q : Nat) ((encIo g).bitAt (192 + st) true ((encIo g).bitAt (16 * st + H.length % 2 ^ pb) true x).2).2).2 := by
  refine ⟨_, ?_, rfl⟩
  have b0 : ∀ i b y, ((encIo g).bitAt i b y).1 = b := fun _ _ _ => rfl
  unfold Md.sym
  simp only [b0, show ((2 : Int) != 0) = true from rfl, show ((2 : Int) != 1) = true from rfl, Bool.true_eq_false, if_false]
  simp only [rept_enc g st _ q l hq h1 h2 h3]
end Go.Proofs.YtklkboplkobhgaaGreat

/- The reference's Becomes keeps its chances and its range coder. -/
namespace Go.Proofs.YtklkboplkobhgaaGreat
set_option maxRecDepth 100000
open Go.RowKit

theorem RE.bec {C base h N : Nat} {lc lp pb st : Int} {r : R4} {x : (Nat → Nat) × Rc.St} {Y : List Nat} {w : World} (hM : RE w C base h N lc lp pb st r x Y) : ∃ (Pl : List Nat) (vR vP : Value), CodAt w C base lc lp pb st r Pl vR vP ∧ ∀ (st' : Int) (r' : R4) (e : Ending) (w' : World), BecDone2 C base lc lp pb st' r' Pl vR vP w e w' → RDone (.tuple #[]) C base h N lc lp pb st' r' x Y w e w' := by
  obtain ⟨Pl, vR, gR, gP, capP, o, cap, hC, hgR, hE, hPl, hP, rfl⟩ := hM.ex
  refine ⟨Pl, vR, _, hC, ?_⟩
  rintro st' r' e w' ⟨vR', rfl, hC', hg, hv⟩
  obtain ⟨cso, hro⟩ := hE.row
  have n2 : C ≠ h := row_ne hC.box hE.blk (by decide)
  have n3 : C ≠ o := row_ne hC.box hro (by decide)
  have bH := hg.block h (Array.getElem?_eq_some_iff.1 hE.blk).1 (by simpa using n2.symm)
  have bO := hg.block o (Array.getElem?_eq_some_iff.1 hro).1 (by simpa using n3.symm)
  obtain ⟨g', cap', e', _⟩ := hC'.reps.some_of_pos (show 0 < 4 by decide)
  have hg' : vR'.ownBlock = some g' := by rw [e']; rfl
  refine ⟨rfl, [C, g', gP, h, o], ⟨⟨Pl, vR', g', gP, capP, o, cap, hC', hg', hE.keep2 bH bO, hPl, hP, rfl⟩, hM.fair⟩, ?_, ?_⟩
  · exact ⟨hg.os, hg.tape, hg.output, hg.size, fun k hk hX => hg.block k hk (fun e => by injection e with e; subst e; exact hX (by simp))⟩
  · intro k hk
    simp only [List.mem_cons, List.not_mem_nil, or_false] at hk ⊢
    rcases hk with rfl | rfl | rfl | rfl | rfl
    · exact .inl (.inl rfl)
    · rcases hv with hv | hv
      · rw [hv, hgR] at hg'
        injection hg' with hg'
        exact .inl (.inr (.inl hg'.symm))
      · exact .inr (hv _ hg')
    · exact .inl (.inr (.inr (.inl rfl)))
    · exact .inl (.inr (.inr (.inr (.inl rfl))))
    · exact .inl (.inr (.inr (.inr (.inr rfl))))
end Go.Proofs.YtklkboplkobhgaaGreat
