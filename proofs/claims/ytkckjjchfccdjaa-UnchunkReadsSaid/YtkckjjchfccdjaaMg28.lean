/- Several texts in one: UrPackC, UrPackD. -/
import Derived.Test.YtkckjjchfccdjaaMg27
import Derived.Test.YtkckjjchfccdjaaMg1
/- The document's Reader: a packed chunk. -/
namespace Go.Proofs.Ytkckjjchfccdjaa
set_option maxRecDepth 100000
open Go.RowKit

set_option maxHeartbeats 16000000 in
theorem urunpack_C {k : RkP} {w : World} {pos : Nat} {s : CkS} (h : Rk k w pos s) (c : Nat) (hc1 : 128 ≤ c) (hc2 : c < 256) (hcl : s.clear = true) (hca : ¬ (c < 192 ∧ s.asked = true)) (ho : s.out.length ≤ 400000000) (hd1 : 1 ≤ k.dict) (hd2 : k.dict ≤ 9223372036854775807) (h1 : ¬ k.B.length < pos + 4) (hq : 192 ≤ c) (h5 : k.B.length < pos + 4 + 1) :
    Calls Try.prog 14 #[PF k.R, .int .i64 (c : Nat)] w (RkDone k (unpackC k.B k.dict c pos s)) := by
  have hused := And.intro hcl ho
  clear hused
  have HK := Lib.hid h
  have HD := Lib.hid (And.intro hd1 hd2)
  have hci : (c : Int) < 256 := by omega
  have hci0 : (128 : Int) ≤ (c : Int) := by omega
  obtain ⟨cv, hU, hC⟩ := h
  obtain ⟨v, ⟨_, _, _, _, _, _, a6, _, _, _, _⟩, _, _, _⟩ := hU.cells
  have ha6 : (c : Int) < 192 → s.asked = false := fun h => by
    cases hq : s.asked with
    | false => rfl
    | true => exact absurd ⟨by omega, hq⟩ hca
  have HH := Lib.hid (urhas_any HK.out 4)
  obtain ⟨u, hu⟩ : ∃ u, ckTwo k.B pos = u := ⟨_, rfl⟩
  obtain ⟨t, ht⟩ : ∃ t, ckTwo k.B (pos + 2) = t := ⟨_, rfl⟩
  have hul : u < 65536 := by rw [← hu]; exact ckTwo_lt _ _
  have htl : t < 65536 := by rw [← ht]; exact ckTwo_lt _ _
  obtain ⟨n, hn⟩ : ∃ n, t + 1 = n := ⟨_, rfl⟩
  obtain ⟨m0, hm0⟩ : ∃ m, 65536 * (c % 32) = m := ⟨_, rfl⟩
  obtain ⟨z, hz⟩ : ∃ z, m0 + u + 1 = z := ⟨_, rfl⟩
  obtain ⟨pp, hpp⟩ : ∃ p, pos + 4 = p := ⟨_, rfl⟩
  have hti : (t : Int) + 1 = (n : Int) := by omega
  have hni : (n : Int) ≤ 65536 := by omega
  have hmi : 65536 * ((c : Int) % 32) = (m0 : Int) := by omega
  have hzi : (m0 : Int) + (u : Int) + 1 = (z : Int) := by omega
  have hzb : (z : Int) ≤ 4000000 := by omega
  have hui : (u : Int) < 65536 := by omega
  have hm0i : (m0 : Int) ≤ 3000000 := by omega
  have HZ := Lib.hid (show z ≤ 4000000 by omega)
  have HN65 := Lib.hid (show n ≤ 65536 by omega)
  have h192 : ¬ c < 192 := by omega
  have g192 : decide ((c : Int) < 192) = false := decide_eq_false (by omega)
  have g192b : decide ((192 : Int) ≤ (c : Int)) = true := decide_eq_true (by omega)
  have g160 : decide ((160 : Int) ≤ (c : Int)) = true := decide_eq_true (by omega)
  have h160 : ¬ c < 160 := by omega
  rw [decide_eq_true (show pos + 4 ≤ k.B.length by omega)] at HH
  have hunp : unpackC k.B k.dict c pos s = ((unprops c k.B pp s).then (unnew c)).then (unbytes k.B n z k.dict) := by unfold unpackC; rw [if_neg h1, hu, ht, hn, hm0, hz, hpp]
  have HNUM := Lib.hid (And.intro hu (And.intro ht (And.intro hpp h1)))
  rw [hpp] at h5
  have HR := Lib.hid (hunp.trans (show _ = CkR.bad 2 by rw [show unprops c k.B pp s = .bad 2 by unfold unprops; rw [if_neg h192, if_pos h5]]; rfl))
  have H5 := Lib.hid h5
  clear hU hC ha6 hu ht hul htl hn hm0 hz hpp h192 h1 hc1 hc2 hcl hca ho hd1 hd2 hunp h160 h5
  go_enter Try.func14, Try.ntmps14
  go_wp2_with fail
  refine HH.out.mono ?_
  rintro e w1 ⟨rfl, hb1⟩
  have HTW1 := Lib.hid (urtwo_any (HK.out.of_below hb1) (by have := HNUM.out; omega))
  rw [HNUM.out.1] at HTW1
  clear hb1
  go_wp2_with fail
  refine HTW1.out.mono ?_
  rintro e w2 ⟨rfl, hk2⟩
  have HTW2 := Lib.hid (urtwo_any hk2 (by have := HNUM.out; omega))
  rw [HNUM.out.2.1, show pos + 2 + 2 = pp by have := HNUM.out; omega] at HTW2
  clear hk2
  go_wp2_with fail
  refine HTW2.out.mono ?_
  rintro e w3 ⟨rfl, hk3⟩
  have HK3 := Lib.hid hk3
  clear hk3
  have HH1 := Lib.hid (urhas_any HK3.out 1)
  rw [decide_eq_false (show ¬ pp + 1 ≤ k.B.length by have := H5.out; omega)] at HH1
  go_wp2_with fail
  refine HH1.out.mono ?_
  rintro e w4 ⟨rfl, hb4⟩
  go_wp2_with fail
  go_ret
  rw [HR.out]
  exact ⟨rfl, (HK3.out.of_below hb4).below⟩
end Go.Proofs.Ytkckjjchfccdjaa

/- The document's Reader: a packed chunk. -/
namespace Go.Proofs.Ytkckjjchfccdjaa
set_option maxRecDepth 100000
open Go.RowKit

set_option maxHeartbeats 16000000 in
theorem urunpack_D {k : RkP} {w : World} {pos : Nat} {s : CkS} (h : Rk k w pos s) (c : Nat) (hc1 : 128 ≤ c) (hc2 : c < 256) (hcl : s.clear = true) (hca : ¬ (c < 192 ∧ s.asked = true)) (ho : s.out.length ≤ 400000000) (hd1 : 1 ≤ k.dict) (hd2 : k.dict ≤ 9223372036854775807) (h1 : ¬ k.B.length < pos + 4) (hq : 192 ≤ c) (h5 : ¬ k.B.length < pos + 4 + 1) (hpq : permB (((k.B.getD (pos + 4) 0).toNat % 9 : Nat) : Int) (((k.B.getD (pos + 4) 0).toNat / 9 % 5 : Nat) : Int) (((k.B.getD (pos + 4) 0).toNat / 45 : Nat) : Int) = false) :
    Calls Try.prog 14 #[PF k.R, .int .i64 (c : Nat)] w (RkDone k (unpackC k.B k.dict c pos s)) := by
  have hused := And.intro hcl ho
  clear hused
  have HK := Lib.hid h
  have HD := Lib.hid (And.intro hd1 hd2)
  have hci : (c : Int) < 256 := by omega
  have hci0 : (128 : Int) ≤ (c : Int) := by omega
  obtain ⟨cv, hU, hC⟩ := h
  obtain ⟨v, ⟨_, _, _, _, _, _, a6, _, _, _, _⟩, _, _, _⟩ := hU.cells
  have ha6 : (c : Int) < 192 → s.asked = false := fun h => by
    cases hq : s.asked with
    | false => rfl
    | true => exact absurd ⟨by omega, hq⟩ hca
  have HH := Lib.hid (urhas_any HK.out 4)
  obtain ⟨u, hu⟩ : ∃ u, ckTwo k.B pos = u := ⟨_, rfl⟩
  obtain ⟨t, ht⟩ : ∃ t, ckTwo k.B (pos + 2) = t := ⟨_, rfl⟩
  have hul : u < 65536 := by rw [← hu]; exact ckTwo_lt _ _
  have htl : t < 65536 := by rw [← ht]; exact ckTwo_lt _ _
  obtain ⟨n, hn⟩ : ∃ n, t + 1 = n := ⟨_, rfl⟩
  obtain ⟨m0, hm0⟩ : ∃ m, 65536 * (c % 32) = m := ⟨_, rfl⟩
  obtain ⟨z, hz⟩ : ∃ z, m0 + u + 1 = z := ⟨_, rfl⟩
  obtain ⟨pp, hpp⟩ : ∃ p, pos + 4 = p := ⟨_, rfl⟩
  have hti : (t : Int) + 1 = (n : Int) := by omega
  have hni : (n : Int) ≤ 65536 := by omega
  have hmi : 65536 * ((c : Int) % 32) = (m0 : Int) := by omega
  have hzi : (m0 : Int) + (u : Int) + 1 = (z : Int) := by omega
  have hzb : (z : Int) ≤ 4000000 := by omega
  have hui : (u : Int) < 65536 := by omega
  have hm0i : (m0 : Int) ≤ 3000000 := by omega
  have HZ := Lib.hid (show z ≤ 4000000 by omega)
  have HN65 := Lib.hid (show n ≤ 65536 by omega)
  have h192 : ¬ c < 192 := by omega
  have g192 : decide ((c : Int) < 192) = false := decide_eq_false (by omega)
  have g192b : decide ((192 : Int) ≤ (c : Int)) = true := decide_eq_true (by omega)
  have g160 : decide ((160 : Int) ≤ (c : Int)) = true := decide_eq_true (by omega)
  have h160 : ¬ c < 160 := by omega
  rw [decide_eq_true (show pos + 4 ≤ k.B.length by omega)] at HH
  have hunp : unpackC k.B k.dict c pos s = ((unprops c k.B pp s).then (unnew c)).then (unbytes k.B n z k.dict) := by unfold unpackC; rw [if_neg h1, hu, ht, hn, hm0, hz, hpp]
  have HNUM := Lib.hid (And.intro hu (And.intro ht (And.intro hpp h1)))
  rw [hpp] at h5
  obtain ⟨x, hx⟩ : ∃ x, k.B.getD pp 0 = x := ⟨_, rfl⟩
  have hxl : x.toNat < 256 := x.toNat_lt
  obtain ⟨LC, hLC⟩ : ∃ m, x.toNat % 9 = m := ⟨_, rfl⟩
  obtain ⟨LP, hLP⟩ : ∃ m, x.toNat / 9 % 5 = m := ⟨_, rfl⟩
  obtain ⟨PB, hPB⟩ : ∃ m, x.toNat / 45 = m := ⟨_, rfl⟩
  obtain ⟨q5, hq5⟩ : ∃ m, pp + 1 = m := ⟨_, rfl⟩
  have hpr : unprops c k.B pp s = .go q5 { s with lc := LC, lp := LP, pb := PB, asked := false } := by unfold unprops; rw [if_neg h192, if_neg h5, hx, hLC, hLP, hPB, hq5]
  have e1 : (x.toNat : Int) % 9 = (LC : Int) := by omega
  have e2 : (x.toNat : Int) / 9 % 5 = (LP : Int) := by omega
  have e3 : (x.toNat : Int) / 45 = (PB : Int) := by omega
  have hLCi : (LC : Int) ≤ 8 := by omega
  have hLPi : (LP : Int) ≤ 4 := by omega
  have hPBi : (PB : Int) ≤ 5 := by omega
  have hq5i : (pp : Int) + 1 = (q5 : Int) := by omega
  have hxi : (x.toNat : Int) < 256 := by omega
  have hwx : IntKind.i64.wrap (x.toNat : Int) = (x.toNat : Int) := IntWalk.i64_in _ (by omega)
  have HE := Lib.hid (And.intro e1 (And.intro e2 e3))
  clear e1 e2 e3
  have HX := Lib.hid hx
  have H5 := Lib.hid (And.intro h5 hq5)
  have HMAY := Lib.hid (fun W => may_any (LC : Nat) (LP : Nat) (PB : Nat) W)
  have HLOW := Lib.hid (show LC ≤ 8 ∧ LP ≤ 4 by omega)
  have hperm : permB (LC : Nat) (LP : Nat) (PB : Nat) = false := by rw [← hLC, ← hLP, ← hPB, ← hx, ← hpp]; exact hpq
  clear hpq
  rw [hperm] at HMAY
  have HR := Lib.hid (hunp.trans (show _ = CkR.bad 6 by rw [hpr, show (CkR.go q5 { s with lc := LC, lp := LP, pb := PB, asked := false }).then (unnew c) = unnew c q5 { s with lc := LC, lp := LP, pb := PB, asked := false } from rfl, show unnew c q5 { s with lc := LC, lp := LP, pb := PB, asked := false } = .bad 6 by unfold unnew; rw [if_neg h160, if_pos hperm]]; rfl))
  clear hU hC ha6 hu ht hul htl hn hm0 hz hpp h192 h1 hc1 hc2 hcl hca ho hd1 hd2 hunp h160 h5 hx hxl hLC hLP hPB hq5 hpr hperm
  go_enter Try.func14, Try.ntmps14
  go_wp2_with fail
  refine HH.out.mono ?_
  rintro e w1 ⟨rfl, hb1⟩
  have HTW1 := Lib.hid (urtwo_any (HK.out.of_below hb1) (by have := HNUM.out; omega))
  rw [HNUM.out.1] at HTW1
  clear hb1
  go_wp2_with fail
  refine HTW1.out.mono ?_
  rintro e w2 ⟨rfl, hk2⟩
  have HTW2 := Lib.hid (urtwo_any hk2 (by have := HNUM.out; omega))
  rw [HNUM.out.2.1, show pos + 2 + 2 = pp by have := HNUM.out; omega] at HTW2
  clear hk2
  go_wp2_with fail
  refine HTW2.out.mono ?_
  rintro e w3 ⟨rfl, hk3⟩
  have HK3 := Lib.hid hk3
  clear hk3
  have HH1 := Lib.hid (urhas_any HK3.out 1)
  rw [decide_eq_true (show pp + 1 ≤ k.B.length by have := H5.out; omega)] at HH1
  go_wp2_with fail
  refine HH1.out.mono ?_
  rintro e w4 ⟨rfl, hb4⟩
  have h5' := H5.out.1
  clear hmi hzi hui hm0i hti
  obtain ⟨cvP, hU3, _⟩ := HK3.out.of_below hb4
  obtain ⟨bA, oA, hAA, hbA, hcA⟩ := hU3.bytes.1.addr (show 0 < k.B.length by omega)
  have kx := hcA pp (by omega)
  rw [← getD_of (d := k.B) (i := pp) (by omega), HX.out] at kx
  obtain ⟨vP, ⟨r0, r1, _, _, _, _, r6, r7, r8, r9, _⟩, _, hfrP, hRlP⟩ := hU3.cells
  rw [hAA] at r0
  have hS0 : w4.drew.cell? ⟨k.R, 0, none⟩ = some (.slice (some ⟨bA, oA, none⟩) k.B.length k.c) ∧ w4.drew.cell? ⟨k.R, 1, none⟩ = some (.int .i64 (pp : Nat)) ∧ w4.drew.cell? ⟨bA, oA + pp, none⟩ = some (.int .u8 (x.toNat : Nat)) := ⟨r0, r1, kx⟩
  have hpi : (pp : Int) < (k.B.length : Int) := by omega
  have HU3 := Lib.hid hU3
  have f1 : w4.drew.frozen? ⟨k.R, 1, none⟩ = false := hfrP 1
  have f7 : w4.drew.frozen? ⟨k.R, 7, none⟩ = false := hfrP 7
  have f8 : w4.drew.frozen? ⟨k.R, 8, none⟩ = false := hfrP 8
  have f9 : w4.drew.frozen? ⟨k.R, 9, none⟩ = false := hfrP 9
  have d1 : w4.drew.cell? ⟨k.R, 1, none⟩ = some (.int .i64 (pp : Nat)) := r1
  have d7 : w4.drew.cell? ⟨k.R, 7, none⟩ = some (.int .i64 (s.lc : Nat)) := r7
  have d8 : w4.drew.cell? ⟨k.R, 8, none⟩ = some (.int .i64 (s.lp : Nat)) := r8
  have d9 : w4.drew.cell? ⟨k.R, 9, none⟩ = some (.int .i64 (s.pb : Nat)) := r9
  have hppL : pp < k.B.length := by omega
  have m1 := hfrP 1
  have m7 := hfrP 7
  have m8 := hfrP 8
  have m9 := hfrP 9
  have hLi : (k.B.length : Int) ≤ 140737488355328 := by have := hU3.nums.2.2.1; omega
  clear hU3 hAA hbA hcA kx hfrP hRlP r0 r6 hb4
  clear h5'
  go_upto_region 10 with fail
  refine wp_region_held_drew (S := fun W => W.cell? ⟨k.R, 0, none⟩ = some (.slice (some ⟨bA, oA, none⟩) k.B.length k.c) ∧ W.cell? ⟨k.R, 1, none⟩ = some (.int .i64 (pp : Nat)) ∧ W.cell? ⟨bA, oA + pp, none⟩ = some (.int .u8 (x.toNat : Nat))) (by kernel_rfl) hS0 (fun hS => ?_)
  refine tk 0 (v := ?vca1) ?yca1 hS ?_
  case yca1 =>
    intro w hSw
    go_simp; all_goals (with_reducible rfl)
  simp only [Act.put, List.setIfInBounds_toArray, List.set_cons_zero, List.set_cons_succ]
  refine tk 1 (v := ?vca2) ?yca2 hS ?_
  case yca2 =>
    intro w hSw
    go_simp; all_goals (with_reducible rfl)
  simp only [Act.put, List.setIfInBounds_toArray, List.set_cons_zero, List.set_cons_succ]
  refine tk 2 (v := ?vca3) ?yca3 hS ?_
  case yca3 =>
    intro w hSw
    go_simp; all_goals (with_reducible rfl)
  simp only [Act.put, List.setIfInBounds_toArray, List.set_cons_zero, List.set_cons_succ]
  refine tk 3 (v := ?vca4) ?yca4 hS ?_
  case yca4 =>
    intro w hSw
    obtain ⟨q0, q1, qx⟩ := hSw
    go_simp; all_goals (with_reducible rfl)
  simp only [Act.put, List.setIfInBounds_toArray, List.set_cons_zero, List.set_cons_succ]
  refine tk 4 (v := ?vca5) ?yca5 hS ?_
  case yca5 =>
    intro w hSw
    go_simp; all_goals (with_reducible rfl)
  simp only [Act.put, List.setIfInBounds_toArray, List.set_cons_zero, List.set_cons_succ]
  refine tk 5 (v := ?vca6) ?yca6 hS ?_
  case yca6 =>
    intro w hSw
    go_simp; all_goals (with_reducible rfl)
  simp only [Act.put, List.setIfInBounds_toArray, List.set_cons_zero, List.set_cons_succ]
  refine tk 6 (v := ?vca7) ?yca7 hS ?_
  case yca7 =>
    intro w hSw
    go_simp; all_goals (with_reducible rfl)
  simp only [Act.put, List.setIfInBounds_toArray, List.set_cons_zero, List.set_cons_succ]
  refine tk 7 (v := ?vca8) ?yca8 hS ?_
  case yca8 =>
    intro w hSw
    obtain ⟨q0, q1, qx⟩ := hSw
    go_simp; all_goals (with_reducible rfl)
  simp only [Act.put, List.setIfInBounds_toArray, List.set_cons_zero, List.set_cons_succ]
  refine tk 8 (v := ?vca9) ?yca9 hS ?_
  case yca9 =>
    intro w hSw
    go_simp; all_goals (with_reducible rfl)
  simp only [Act.put, List.setIfInBounds_toArray, List.set_cons_zero, List.set_cons_succ]
  refine tk 9 (v := ?vca10) ?yca10 hS ?_
  case yca10 =>
    intro w hSw
    obtain ⟨q0, q1, qx⟩ := hSw
    go_simp; all_goals (with_reducible rfl)
  simp only [Act.put, List.setIfInBounds_toArray, List.set_cons_zero, List.set_cons_succ]
  refine tk 10 (v := ?vca11) ?yca11 hS ?_
  case yca11 =>
    intro w hSw
    go_simp; all_goals (with_reducible rfl)
  simp only [Act.put, List.setIfInBounds_toArray, List.set_cons_zero, List.set_cons_succ]
  refine tk 11 (v := ?vca12) ?yca12 hS ?_
  case yca12 =>
    intro w hSw
    go_simp; all_goals (with_reducible rfl)
  simp only [Act.put, List.setIfInBounds_toArray, List.set_cons_zero, List.set_cons_succ]
  refine wpAnyH_done (by kernel_rfl) ?_ _
  skip
  clear hS hS0
  have u1 := HU3.out.put 1 (.int .i64 (q5 : Nat)) (pos' := q5) (s' := s) (cv' := cvP) (fun _ => rfl) rfl (by have := H5.out; omega) HU3.out.nums.2.2.2.2
  have u2 := u1.put 7 (.int .i64 (LC : Nat)) (pos' := q5) (s' := { s with lc := LC }) (cv' := cvP) (fun _ => rfl) rfl u1.nums.2.2.2.1 u1.nums.2.2.2.2
  have u3 := u2.put 8 (.int .i64 (LP : Nat)) (pos' := q5) (s' := { s with lc := LC, lp := LP }) (cv' := cvP) (fun _ => rfl) rfl u1.nums.2.2.2.1 u1.nums.2.2.2.2
  have u4 := u3.put 9 (.int .i64 (PB : Nat)) (pos' := q5) (s' := { s with lc := LC, lp := LP, pb := PB }) (cv' := cvP) (fun _ => rfl) rfl u1.nums.2.2.2.1 u1.nums.2.2.2.2 |>.of_below (drew_below _)
  obtain ⟨W15, hW15⟩ : ∃ W, ((((w4.setCell ⟨k.R, 1, none⟩ (.int .i64 (q5 : Nat))).setCell ⟨k.R, 7, none⟩ (.int .i64 (LC : Nat))).setCell ⟨k.R, 8, none⟩ (.int .i64 (LP : Nat))).setCell ⟨k.R, 9, none⟩ (.int .i64 (PB : Nat))).drew = W := ⟨_, rfl⟩
  rw [hW15] at u4
  have HW15 := Lib.hid hW15
  obtain ⟨_, ⟨_, _, _, _, _, _, z6, z7, z8, z9, _⟩, _, zfr, _⟩ := u4.cells
  have zf6 := zfr 6
  have HU15 := Lib.hid u4
  clear u1 u2 u3 u4 hW15 zfr
  go_upto_region 15 with fail
  rw [HE.out.2.1, HE.out.1, HE.out.2.2, HW15.out]
  clear HW15 d1 d7 d8 d9 f1 f7 f8 f9 m1 m7 m8 m9 r1 r7 r8 r9
  have hS0 : W15.drew.cell? ⟨k.R, 7, none⟩ = some (.int .i64 (LC : Nat)) ∧ W15.drew.cell? ⟨k.R, 8, none⟩ = some (.int .i64 (LP : Nat)) ∧ W15.drew.cell? ⟨k.R, 9, none⟩ = some (.int .i64 (PB : Nat)) := ⟨z7, z8, z9⟩
  refine wp_region_held_drew (S := fun W => W.cell? ⟨k.R, 7, none⟩ = some (.int .i64 (LC : Nat)) ∧ W.cell? ⟨k.R, 8, none⟩ = some (.int .i64 (LP : Nat)) ∧ W.cell? ⟨k.R, 9, none⟩ = some (.int .i64 (PB : Nat))) (by kernel_rfl) hS0 (fun hS => ?_)
  refine tk 0 (v := ?vcb13) ?ycb13 hS ?_
  case ycb13 =>
    intro w hSw
    go_simp; all_goals (with_reducible rfl)
  simp only [Act.put, List.setIfInBounds_toArray, List.set_cons_zero, List.set_cons_succ]
  refine tk 1 (v := ?vcb14) ?ycb14 hS ?_
  case ycb14 =>
    intro w hSw
    go_simp; all_goals (with_reducible rfl)
  simp only [Act.put, List.setIfInBounds_toArray, List.set_cons_zero, List.set_cons_succ]
  refine tk 2 (v := ?vcb15) ?ycb15 hS ?_
  case ycb15 =>
    intro w hSw
    go_simp; all_goals (with_reducible rfl)
  simp only [Act.put, List.setIfInBounds_toArray, List.set_cons_zero, List.set_cons_succ]
  refine tk 3 (v := ?vcb16) ?ycb16 hS ?_
  case ycb16 =>
    intro w hSw
    obtain ⟨q7, q8, q9⟩ := hSw
    go_simp; all_goals (with_reducible rfl)
  simp only [Act.put, List.setIfInBounds_toArray, List.set_cons_zero, List.set_cons_succ]
  refine tk 4 (v := ?vcb17) ?ycb17 hS ?_
  case ycb17 =>
    intro w hSw
    go_simp; all_goals (with_reducible rfl)
  simp only [Act.put, List.setIfInBounds_toArray, List.set_cons_zero, List.set_cons_succ]
  refine tk 5 (v := ?vcb18) ?ycb18 hS ?_
  case ycb18 =>
    intro w hSw
    go_simp; all_goals (with_reducible rfl)
  simp only [Act.put, List.setIfInBounds_toArray, List.set_cons_zero, List.set_cons_succ]
  refine tk 6 (v := ?vcb19) ?ycb19 hS ?_
  case ycb19 =>
    intro w hSw
    go_simp; all_goals (with_reducible rfl)
  simp only [Act.put, List.setIfInBounds_toArray, List.set_cons_zero, List.set_cons_succ]
  refine tk 7 (v := ?vcb20) ?ycb20 hS ?_
  case ycb20 =>
    intro w hSw
    obtain ⟨q7, q8, q9⟩ := hSw
    go_simp; all_goals (with_reducible rfl)
  simp only [Act.put, List.setIfInBounds_toArray, List.set_cons_zero, List.set_cons_succ]
  refine tk 8 (v := ?vcb21) ?ycb21 hS ?_
  case ycb21 =>
    intro w hSw
    go_simp; all_goals (with_reducible rfl)
  simp only [Act.put, List.setIfInBounds_toArray, List.set_cons_zero, List.set_cons_succ]
  refine tk 9 (v := ?vcb22) ?ycb22 hS ?_
  case ycb22 =>
    intro w hSw
    go_simp; all_goals (with_reducible rfl)
  simp only [Act.put, List.setIfInBounds_toArray, List.set_cons_zero, List.set_cons_succ]
  refine tk 10 (v := ?vcb23) ?ycb23 hS ?_
  case ycb23 =>
    intro w hSw
    go_simp; all_goals (with_reducible rfl)
  simp only [Act.put, List.setIfInBounds_toArray, List.set_cons_zero, List.set_cons_succ]
  refine tk 11 (v := ?vcb24) ?ycb24 hS ?_
  case ycb24 =>
    intro w hSw
    obtain ⟨q7, q8, q9⟩ := hSw
    go_simp; all_goals (with_reducible rfl)
  simp only [Act.put, List.setIfInBounds_toArray, List.set_cons_zero, List.set_cons_succ]
  refine wpAnyH_ready (rs := [12]) (by kernel_rfl) (by simp) ?_
  refine (AllReadyH.cons (o := { dst := some 87, op := Op.call { callee := Callee.value (Operand.func 15), args := #[Operand.tmp 78, Operand.tmp 82, Operand.tmp 86], argTypes := #[3, 3, 3] }, type := 4, pos := "ref.go:51", after := #[{ on := 3, ground := Ground.data }, { on := 7, ground := Ground.data }, { on := 11, ground := Ground.data }], guard := none }) rfl (fun K hK => ?_) AllReadyH.nil)
  go_simp
  refine (HMAY.out _).mono ?_
  rintro e x14 ⟨rfl, ex⟩
  subst ex
  have g14 := hS
  go_wp2_with fail
  refine hK.out _ _ g14 (fun _ => ?_)
  clear hK K
  refine tk 13 (v := ?vcb25) ?ycb25 g14 ?_
  case ycb25 =>
    intro w hSw
    go_simp; all_goals (with_reducible rfl)
  simp only [Act.put, List.setIfInBounds_toArray, List.set_cons_zero, List.set_cons_succ]
  refine wpAnyH_done (by kernel_rfl) ?_ _
  go_wp2_with fail
  go_ret
  rw [HR.out]
  exact ⟨rfl, (HU15.out.of_below (drew_below _)).below⟩
end Go.Proofs.Ytkckjjchfccdjaa
