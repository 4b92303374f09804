/- The document's Reader: a packed chunk. -/
import Derived.Test.YtkckjjchfccdjaaMg1
import Derived.Test.YtkckjjchfccdjaaMg27
namespace Go.Proofs.Ytkckjjchfccdjaa
set_option maxRecDepth 100000
open Go.RowKit

set_option maxHeartbeats 16000000 in
theorem urunpack_E {k : RkP} {w : World} {pos : Nat} {s : CkS} (h : Rk k w pos s) (c : Nat) (hc1 : 128 ≤ c) (hc2 : c < 256) (hcl : s.clear = true) (hca : ¬ (c < 192 ∧ s.asked = true)) (ho : s.out.length ≤ 400000000) (hd1 : 1 ≤ k.dict) (hd2 : k.dict ≤ 9223372036854775807) (h1 : ¬ k.B.length < pos + 4) (hq : 192 ≤ c) (h5 : ¬ k.B.length < pos + 4 + 1) (hpq : permB (((k.B.getD (pos + 4) 0).toNat % 9 : Nat) : Int) (((k.B.getD (pos + 4) 0).toNat / 9 % 5 : Nat) : Int) (((k.B.getD (pos + 4) 0).toNat / 45 : Nat) : Int) = true) :
    Calls Try.prog 14 #[PF k.R, .int .i64 (c : Nat)] w (RkDone k (unpackC k.B k.dict c pos s)) := by
  have hused := And.intro hcl ho
  clear hused
  have HK := Lib.hid h
  have HD := Lib.hid (And.intro hd1 hd2)
  have hci : (c : Int) < 256 := by omega
  have hci0 : (128 : Int) ≤ (c : Int) := by omega
  obtain ⟨cv, hU, hC⟩ := h
  obtain ⟨v, ⟨_, _, _, _, _, _, a6, _, _, _, _⟩, _, _, _⟩ := hU.cells
  have ha6 : (c : Int) < 192 → s.asked = false := fun h => by
    cases hq : s.asked with
    | false => rfl
    | true => exact absurd ⟨by omega, hq⟩ hca
  have HH := Lib.hid (urhas_any HK.out 4)
  obtain ⟨u, hu⟩ : ∃ u, ckTwo k.B pos = u := ⟨_, rfl⟩
  obtain ⟨t, ht⟩ : ∃ t, ckTwo k.B (pos + 2) = t := ⟨_, rfl⟩
  have hul : u < 65536 := by rw [← hu]; exact ckTwo_lt _ _
  have htl : t < 65536 := by rw [← ht]; exact ckTwo_lt _ _
  obtain ⟨n, hn⟩ : ∃ n, t + 1 = n := ⟨_, rfl⟩
  obtain ⟨m0, hm0⟩ : ∃ m, 65536 * (c % 32) = m := ⟨_, rfl⟩
  obtain ⟨z, hz⟩ : ∃ z, m0 + u + 1 = z := ⟨_, rfl⟩
  obtain ⟨pp, hpp⟩ : ∃ p, pos + 4 = p := ⟨_, rfl⟩
  have hti : (t : Int) + 1 = (n : Int) := by omega
  have hni : (n : Int) ≤ 65536 := by omega
  have hmi : 65536 * ((c : Int) % 32) = (m0 : Int) := by omega
  have hzi : (m0 : Int) + (u : Int) + 1 = (z : Int) := by omega
  have hzb : (z : Int) ≤ 4000000 := by omega
  have hui : (u : Int) < 65536 := by omega
  have hm0i : (m0 : Int) ≤ 3000000 := by omega
  have HZ := Lib.hid (show z ≤ 4000000 by omega)
  have HN65 := Lib.hid (show n ≤ 65536 by omega)
  have h192 : ¬ c < 192 := by omega
  have g192 : decide ((c : Int) < 192) = false := decide_eq_false (by omega)
  have g192b : decide ((192 : Int) ≤ (c : Int)) = true := decide_eq_true (by omega)
  have g160 : decide ((160 : Int) ≤ (c : Int)) = true := decide_eq_true (by omega)
  have h160 : ¬ c < 160 := by omega
  rw [decide_eq_true (show pos + 4 ≤ k.B.length by omega)] at HH
  have hunp : unpackC k.B k.dict c pos s = ((unprops c k.B pp s).then (unnew c)).then (unbytes k.B n z k.dict) := by unfold unpackC; rw [if_neg h1, hu, ht, hn, hm0, hz, hpp]
  have HNUM := Lib.hid (And.intro hu (And.intro ht (And.intro hpp h1)))
  rw [hpp] at h5
  obtain ⟨x, hx⟩ : ∃ x, k.B.getD pp 0 = x := ⟨_, rfl⟩
  have hxl : x.toNat < 256 := x.toNat_lt
  obtain ⟨LC, hLC⟩ : ∃ m, x.toNat % 9 = m := ⟨_, rfl⟩
  obtain ⟨LP, hLP⟩ : ∃ m, x.toNat / 9 % 5 = m := ⟨_, rfl⟩
  obtain ⟨PB, hPB⟩ : ∃ m, x.toNat / 45 = m := ⟨_, rfl⟩
  obtain ⟨q5, hq5⟩ : ∃ m, pp + 1 = m := ⟨_, rfl⟩
  have hpr : unprops c k.B pp s = .go q5 { s with lc := LC, lp := LP, pb := PB, asked := false } := by unfold unprops; rw [if_neg h192, if_neg h5, hx, hLC, hLP, hPB, hq5]
  have e1 : (x.toNat : Int) % 9 = (LC : Int) := by omega
  have e2 : (x.toNat : Int) / 9 % 5 = (LP : Int) := by omega
  have e3 : (x.toNat : Int) / 45 = (PB : Int) := by omega
  have hLCi : (LC : Int) ≤ 8 := by omega
  have hLPi : (LP : Int) ≤ 4 := by omega
  have hPBi : (PB : Int) ≤ 5 := by omega
  have hq5i : (pp : Int) + 1 = (q5 : Int) := by omega
  have hxi : (x.toNat : Int) < 256 := by omega
  have hwx : IntKind.i64.wrap (x.toNat : Int) = (x.toNat : Int) := IntWalk.i64_in _ (by omega)
  have HE := Lib.hid (And.intro e1 (And.intro e2 e3))
  clear e1 e2 e3
  have HX := Lib.hid hx
  have H5 := Lib.hid (And.intro h5 hq5)
  have HMAY := Lib.hid (fun W => may_any (LC : Nat) (LP : Nat) (PB : Nat) W)
  have HLOW := Lib.hid (show LC ≤ 8 ∧ LP ≤ 4 by omega)
  have hperm : permB (LC : Nat) (LP : Nat) (PB : Nat) = true := by rw [← hLC, ← hLP, ← hPB, ← hx, ← hpp]; exact hpq
  clear hpq
  rw [hperm] at HMAY
  have hp' := of_decide_eq_true hperm
  have HPERM := Lib.hid (show LC + LP ≤ 4 ∧ PB ≤ 4 by omega)
  have HPB := Lib.hid hperm
  have HR0 := Lib.hid (hunp.trans (show _ = unbytes k.B n z k.dict q5 (ckFresh { s with lc := LC, lp := LP, pb := PB, asked := false }) by rw [hpr, show (CkR.go q5 { s with lc := LC, lp := LP, pb := PB, asked := false }).then (unnew c) = unnew c q5 { s with lc := LC, lp := LP, pb := PB, asked := false } from rfl, show unnew c q5 { s with lc := LC, lp := LP, pb := PB, asked := false } = .go q5 (ckFresh { s with lc := LC, lp := LP, pb := PB, asked := false }) by unfold unnew; rw [if_neg h160, if_neg (by show ¬ permB (LC : Nat) (LP : Nat) (PB : Nat) = false; rw [hperm]; decide)]]; rfl))
  have HSF := Lib.hid (show (ckFresh { s with lc := LC, lp := LP, pb := PB, asked := false }).clear = true ∧ (ckFresh { s with lc := LC, lp := LP, pb := PB, asked := false }).asked = false ∧ (ckFresh { s with lc := LC, lp := LP, pb := PB, asked := false }).out.length ≤ 400000000 from ⟨hcl, rfl, ho⟩)
  clear hU hC ha6 hu ht hul htl hn hm0 hz hpp h192 h1 hc1 hc2 hcl hca ho hd1 hd2 hunp h160 h5 hx hxl hLC hLP hPB hq5 hpr hperm hp'
  go_enter Try.func14, Try.ntmps14
  go_wp2_with fail
  refine HH.out.mono ?_
  rintro e w1 ⟨rfl, hb1⟩
  have HTW1 := Lib.hid (urtwo_any (HK.out.of_below hb1) (by have := HNUM.out; omega))
  rw [HNUM.out.1] at HTW1
  clear hb1
  go_wp2_with fail
  refine HTW1.out.mono ?_
  rintro e w2 ⟨rfl, hk2⟩
  have HTW2 := Lib.hid (urtwo_any hk2 (by have := HNUM.out; omega))
  rw [HNUM.out.2.1, show pos + 2 + 2 = pp by have := HNUM.out; omega] at HTW2
  clear hk2
  go_wp2_with fail
  refine HTW2.out.mono ?_
  rintro e w3 ⟨rfl, hk3⟩
  have HK3 := Lib.hid hk3
  clear hk3
  have HH1 := Lib.hid (urhas_any HK3.out 1)
  rw [decide_eq_true (show pp + 1 ≤ k.B.length by have := H5.out; omega)] at HH1
  go_wp2_with fail
  refine HH1.out.mono ?_
  rintro e w4 ⟨rfl, hb4⟩
  have h5' := H5.out.1
  clear hmi hzi hui hm0i hti
  obtain ⟨cvP, hU3, _⟩ := HK3.out.of_below hb4
  obtain ⟨bA, oA, hAA, hbA, hcA⟩ := hU3.bytes.1.addr (show 0 < k.B.length by omega)
  have kx := hcA pp (by omega)
  rw [← getD_of (d := k.B) (i := pp) (by omega), HX.out] at kx
  obtain ⟨vP, ⟨r0, r1, _, _, _, _, r6, r7, r8, r9, _⟩, _, hfrP, hRlP⟩ := hU3.cells
  rw [hAA] at r0
  have hS0 : w4.drew.cell? ⟨k.R, 0, none⟩ = some (.slice (some ⟨bA, oA, none⟩) k.B.length k.c) ∧ w4.drew.cell? ⟨k.R, 1, none⟩ = some (.int .i64 (pp : Nat)) ∧ w4.drew.cell? ⟨bA, oA + pp, none⟩ = some (.int .u8 (x.toNat : Nat)) := ⟨r0, r1, kx⟩
  have hpi : (pp : Int) < (k.B.length : Int) := by omega
  have HU3 := Lib.hid hU3
  have f1 : w4.drew.frozen? ⟨k.R, 1, none⟩ = false := hfrP 1
  have f7 : w4.drew.frozen? ⟨k.R, 7, none⟩ = false := hfrP 7
  have f8 : w4.drew.frozen? ⟨k.R, 8, none⟩ = false := hfrP 8
  have f9 : w4.drew.frozen? ⟨k.R, 9, none⟩ = false := hfrP 9
  have d1 : w4.drew.cell? ⟨k.R, 1, none⟩ = some (.int .i64 (pp : Nat)) := r1
  have d7 : w4.drew.cell? ⟨k.R, 7, none⟩ = some (.int .i64 (s.lc : Nat)) := r7
  have d8 : w4.drew.cell? ⟨k.R, 8, none⟩ = some (.int .i64 (s.lp : Nat)) := r8
  have d9 : w4.drew.cell? ⟨k.R, 9, none⟩ = some (.int .i64 (s.pb : Nat)) := r9
  have hppL : pp < k.B.length := by omega
  have m1 := hfrP 1
  have m7 := hfrP 7
  have m8 := hfrP 8
  have m9 := hfrP 9
  have hLi : (k.B.length : Int) ≤ 140737488355328 := by have := hU3.nums.2.2.1; omega
  clear hU3 hAA hbA hcA kx hfrP hRlP r0 r6 hb4
  clear h5'
  go_upto_region 10 with fail
  refine wp_region_held_drew (S := fun W => W.cell? ⟨k.R, 0, none⟩ = some (.slice (some ⟨bA, oA, none⟩) k.B.length k.c) ∧ W.cell? ⟨k.R, 1, none⟩ = some (.int .i64 (pp : Nat)) ∧ W.cell? ⟨bA, oA + pp, none⟩ = some (.int .u8 (x.toNat : Nat))) (by kernel_rfl) hS0 (fun hS => ?_)
  refine tk 0 (v := ?vcc26) ?ycc26 hS ?_
  case ycc26 =>
    intro w hSw
    go_simp; all_goals (with_reducible rfl)
  simp only [Act.put, List.setIfInBounds_toArray, List.set_cons_zero, List.set_cons_succ]
  refine tk 1 (v := ?vcc27) ?ycc27 hS ?_
  case ycc27 =>
    intro w hSw
    go_simp; all_goals (with_reducible rfl)
  simp only [Act.put, List.setIfInBounds_toArray, List.set_cons_zero, List.set_cons_succ]
  refine tk 2 (v := ?vcc28) ?ycc28 hS ?_
  case ycc28 =>
    intro w hSw
    go_simp; all_goals (with_reducible rfl)
  simp only [Act.put, List.setIfInBounds_toArray, List.set_cons_zero, List.set_cons_succ]
  refine tk 3 (v := ?vcc29) ?ycc29 hS ?_
  case ycc29 =>
    intro w hSw
    obtain ⟨q0, q1, qx⟩ := hSw
    go_simp; all_goals (with_reducible rfl)
  simp only [Act.put, List.setIfInBounds_toArray, List.set_cons_zero, List.set_cons_succ]
  refine tk 4 (v := ?vcc30) ?ycc30 hS ?_
  case ycc30 =>
    intro w hSw
    go_simp; all_goals (with_reducible rfl)
  simp only [Act.put, List.setIfInBounds_toArray, List.set_cons_zero, List.set_cons_succ]
  refine tk 5 (v := ?vcc31) ?ycc31 hS ?_
  case ycc31 =>
    intro w hSw
    go_simp; all_goals (with_reducible rfl)
  simp only [Act.put, List.setIfInBounds_toArray, List.set_cons_zero, List.set_cons_succ]
  refine tk 6 (v := ?vcc32) ?ycc32 hS ?_
  case ycc32 =>
    intro w hSw
    go_simp; all_goals (with_reducible rfl)
  simp only [Act.put, List.setIfInBounds_toArray, List.set_cons_zero, List.set_cons_succ]
  refine tk 7 (v := ?vcc33) ?ycc33 hS ?_
  case ycc33 =>
    intro w hSw
    obtain ⟨q0, q1, qx⟩ := hSw
    go_simp; all_goals (with_reducible rfl)
  simp only [Act.put, List.setIfInBounds_toArray, List.set_cons_zero, List.set_cons_succ]
  refine tk 8 (v := ?vcc34) ?ycc34 hS ?_
  case ycc34 =>
    intro w hSw
    go_simp; all_goals (with_reducible rfl)
  simp only [Act.put, List.setIfInBounds_toArray, List.set_cons_zero, List.set_cons_succ]
  refine tk 9 (v := ?vcc35) ?ycc35 hS ?_
  case ycc35 =>
    intro w hSw
    obtain ⟨q0, q1, qx⟩ := hSw
    go_simp; all_goals (with_reducible rfl)
  simp only [Act.put, List.setIfInBounds_toArray, List.set_cons_zero, List.set_cons_succ]
  refine tk 10 (v := ?vcc36) ?ycc36 hS ?_
  case ycc36 =>
    intro w hSw
    go_simp; all_goals (with_reducible rfl)
  simp only [Act.put, List.setIfInBounds_toArray, List.set_cons_zero, List.set_cons_succ]
  refine tk 11 (v := ?vcc37) ?ycc37 hS ?_
  case ycc37 =>
    intro w hSw
    go_simp; all_goals (with_reducible rfl)
  simp only [Act.put, List.setIfInBounds_toArray, List.set_cons_zero, List.set_cons_succ]
  refine wpAnyH_done (by kernel_rfl) ?_ _
  skip
  clear hS hS0
  have u1 := HU3.out.put 1 (.int .i64 (q5 : Nat)) (pos' := q5) (s' := s) (cv' := cvP) (fun _ => rfl) rfl (by have := H5.out; omega) HU3.out.nums.2.2.2.2
  have u2 := u1.put 7 (.int .i64 (LC : Nat)) (pos' := q5) (s' := { s with lc := LC }) (cv' := cvP) (fun _ => rfl) rfl u1.nums.2.2.2.1 u1.nums.2.2.2.2
  have u3 := u2.put 8 (.int .i64 (LP : Nat)) (pos' := q5) (s' := { s with lc := LC, lp := LP }) (cv' := cvP) (fun _ => rfl) rfl u1.nums.2.2.2.1 u1.nums.2.2.2.2
  have u4 := u3.put 9 (.int .i64 (PB : Nat)) (pos' := q5) (s' := { s with lc := LC, lp := LP, pb := PB }) (cv' := cvP) (fun _ => rfl) rfl u1.nums.2.2.2.1 u1.nums.2.2.2.2 |>.of_below (drew_below _)
  obtain ⟨W15, hW15⟩ : ∃ W, ((((w4.setCell ⟨k.R, 1, none⟩ (.int .i64 (q5 : Nat))).setCell ⟨k.R, 7, none⟩ (.int .i64 (LC : Nat))).setCell ⟨k.R, 8, none⟩ (.int .i64 (LP : Nat))).setCell ⟨k.R, 9, none⟩ (.int .i64 (PB : Nat))).drew = W := ⟨_, rfl⟩
  rw [hW15] at u4
  have HW15 := Lib.hid hW15
  obtain ⟨_, ⟨_, _, _, _, _, _, z6, z7, z8, z9, _⟩, _, zfr, _⟩ := u4.cells
  have zf6 := zfr 6
  have HU15 := Lib.hid u4
  clear u1 u2 u3 u4 hW15 zfr
  go_upto_region 15 with fail
  rw [HE.out.2.1, HE.out.1, HE.out.2.2, HW15.out]
  clear HW15 d1 d7 d8 d9 f1 f7 f8 f9 m1 m7 m8 m9 r1 r7 r8 r9
  have hS0 : W15.drew.cell? ⟨k.R, 7, none⟩ = some (.int .i64 (LC : Nat)) ∧ W15.drew.cell? ⟨k.R, 8, none⟩ = some (.int .i64 (LP : Nat)) ∧ W15.drew.cell? ⟨k.R, 9, none⟩ = some (.int .i64 (PB : Nat)) := ⟨z7, z8, z9⟩
  refine wp_region_held_drew (S := fun W => W.cell? ⟨k.R, 7, none⟩ = some (.int .i64 (LC : Nat)) ∧ W.cell? ⟨k.R, 8, none⟩ = some (.int .i64 (LP : Nat)) ∧ W.cell? ⟨k.R, 9, none⟩ = some (.int .i64 (PB : Nat))) (by kernel_rfl) hS0 (fun hS => ?_)
  refine tk 0 (v := ?vcd38) ?ycd38 hS ?_
  case ycd38 =>
    intro w hSw
    go_simp; all_goals (with_reducible rfl)
  simp only [Act.put, List.setIfInBounds_toArray, List.set_cons_zero, List.set_cons_succ]
  refine tk 1 (v := ?vcd39) ?ycd39 hS ?_
  case ycd39 =>
    intro w hSw
    go_simp; all_goals (with_reducible rfl)
  simp only [Act.put, List.setIfInBounds_toArray, List.set_cons_zero, List.set_cons_succ]
  refine tk 2 (v := ?vcd40) ?ycd40 hS ?_
  case ycd40 =>
    intro w hSw
    go_simp; all_goals (with_reducible rfl)
  simp only [Act.put, List.setIfInBounds_toArray, List.set_cons_zero, List.set_cons_succ]
  refine tk 3 (v := ?vcd41) ?ycd41 hS ?_
  case ycd41 =>
    intro w hSw
    obtain ⟨q7, q8, q9⟩ := hSw
    go_simp; all_goals (with_reducible rfl)
  simp only [Act.put, List.setIfInBounds_toArray, List.set_cons_zero, List.set_cons_succ]
  refine tk 4 (v := ?vcd42) ?ycd42 hS ?_
  case ycd42 =>
    intro w hSw
    go_simp; all_goals (with_reducible rfl)
  simp only [Act.put, List.setIfInBounds_toArray, List.set_cons_zero, List.set_cons_succ]
  refine tk 5 (v := ?vcd43) ?ycd43 hS ?_
  case ycd43 =>
    intro w hSw
    go_simp; all_goals (with_reducible rfl)
  simp only [Act.put, List.setIfInBounds_toArray, List.set_cons_zero, List.set_cons_succ]
  refine tk 6 (v := ?vcd44) ?ycd44 hS ?_
  case ycd44 =>
    intro w hSw
    go_simp; all_goals (with_reducible rfl)
  simp only [Act.put, List.setIfInBounds_toArray, List.set_cons_zero, List.set_cons_succ]
  refine tk 7 (v := ?vcd45) ?ycd45 hS ?_
  case ycd45 =>
    intro w hSw
    obtain ⟨q7, q8, q9⟩ := hSw
    go_simp; all_goals (with_reducible rfl)
  simp only [Act.put, List.setIfInBounds_toArray, List.set_cons_zero, List.set_cons_succ]
  refine tk 8 (v := ?vcd46) ?ycd46 hS ?_
  case ycd46 =>
    intro w hSw
    go_simp; all_goals (with_reducible rfl)
  simp only [Act.put, List.setIfInBounds_toArray, List.set_cons_zero, List.set_cons_succ]
  refine tk 9 (v := ?vcd47) ?ycd47 hS ?_
  case ycd47 =>
    intro w hSw
    go_simp; all_goals (with_reducible rfl)
  simp only [Act.put, List.setIfInBounds_toArray, List.set_cons_zero, List.set_cons_succ]
  refine tk 10 (v := ?vcd48) ?ycd48 hS ?_
  case ycd48 =>
    intro w hSw
    go_simp; all_goals (with_reducible rfl)
  simp only [Act.put, List.setIfInBounds_toArray, List.set_cons_zero, List.set_cons_succ]
  refine tk 11 (v := ?vcd49) ?ycd49 hS ?_
  case ycd49 =>
    intro w hSw
    obtain ⟨q7, q8, q9⟩ := hSw
    go_simp; all_goals (with_reducible rfl)
  simp only [Act.put, List.setIfInBounds_toArray, List.set_cons_zero, List.set_cons_succ]
  refine wpAnyH_ready (rs := [12]) (by kernel_rfl) (by simp) ?_
  refine (AllReadyH.cons (o := { dst := some 87, op := Op.call { callee := Callee.value (Operand.func 15), args := #[Operand.tmp 78, Operand.tmp 82, Operand.tmp 86], argTypes := #[3, 3, 3] }, type := 4, pos := "ref.go:51", after := #[{ on := 3, ground := Ground.data }, { on := 7, ground := Ground.data }, { on := 11, ground := Ground.data }], guard := none }) rfl (fun K hK => ?_) AllReadyH.nil)
  go_simp
  refine (HMAY.out _).mono ?_
  rintro e x14 ⟨rfl, ex⟩
  subst ex
  have g14 := hS
  go_wp2_with fail
  refine hK.out _ _ g14 (fun _ => ?_)
  clear hK K
  refine tk 13 (v := ?vcd50) ?ycd50 g14 ?_
  case ycd50 =>
    intro w hSw
    go_simp; all_goals (with_reducible rfl)
  simp only [Act.put, List.setIfInBounds_toArray, List.set_cons_zero, List.set_cons_succ]
  refine wpAnyH_done (by kernel_rfl) ?_ _
  clear hS hS0
  have u5 := HU15.out.put 6 (.bool false) (pos' := q5) (s' := { s with lc := LC, lp := LP, pb := PB, asked := false }) (cv' := cvP) (fun _ => rfl) rfl HU15.out.nums.2.2.2.1 HU15.out.nums.2.2.2.2 |>.of_below (drew_below _)
  have zd6 : W15.drew.cell? ⟨k.R, 6, none⟩ = some (.bool s.asked) := z6
  have zdf6 : W15.drew.frozen? ⟨k.R, 6, none⟩ = false := zf6
  obtain ⟨wN, hwN⟩ : ∃ W, (W15.setCell ⟨k.R, 6, none⟩ (.bool false)).drew = W := ⟨_, rfl⟩
  rw [hwN] at u5
  obtain ⟨s1, hs1⟩ : ∃ x : CkS, { s with lc := LC, lp := LP, pb := PB, asked := false } = x := ⟨_, rfl⟩
  obtain ⟨pp2, hpp2⟩ : ∃ x, q5 = x := ⟨_, rfl⟩
  have HR : Hid (unpackC k.B k.dict c pos s = unbytes k.B n z k.dict pp2 (ckFresh s1)) := Lib.hid (by rw [← hpp2, ← hs1]; exact HR0.out)
  have HSF1 : Hid ((ckFresh s1).clear = true ∧ (ckFresh s1).asked = false ∧ (ckFresh s1).out.length ≤ 400000000) := Lib.hid (by rw [← hs1]; exact HSF.out)
  have HLS : Hid (s1.lc = LC ∧ s1.lp = LP ∧ s1.pb = PB) := Lib.hid (by rw [← hs1]; exact ⟨rfl, rfl, rfl⟩)
  have HPB1 : Hid (permB (s1.lc : Nat) (s1.lp : Nat) (s1.pb : Nat) = true) := Lib.hid (by rw [HLS.out.1, HLS.out.2.1, HLS.out.2.2]; exact HPB.out)
  rw [hs1, hpp2] at u5
  have HUBN := Lib.hid u5
  have HWN := Lib.hid hwN
  obtain ⟨cvN, hcvN⟩ : ∃ v, cvP = v := ⟨_, rfl⟩
  rw [hcvN] at HUBN
  clear u5 hwN hs1 hpp2 HR0 HNUM HK3 a6 HSF hcvN z6 z7 z8 z9 zf6 hwx
  go_upto_region 20 with fail
  rw [HWN.out]
  clear HWN zd6 zdf6
  obtain ⟨vN, ⟨_, _, _, _, _, _, _, r7, r8, r9, r10⟩, _, hfrN, hRlN⟩ := HUBN.out.cells
  rw [HLS.out.1] at r7
  rw [HLS.out.2.1] at r8
  rw [HLS.out.2.2] at r9
  have HNEW := Lib.hid (fun W => newC_any LC LP PB (by have := HPERM.out; omega) W)
  have HS20 : Hid (∀ W : World, Below wN.heap.size wN W → W.cell? ⟨k.R, 7, none⟩ = some (.int .i64 (LC : Nat)) ∧ W.cell? ⟨k.R, 8, none⟩ = some (.int .i64 (LP : Nat)) ∧ W.cell? ⟨k.R, 9, none⟩ = some (.int .i64 (PB : Nat))) := Lib.hid (fun W hW => ⟨(hW.cell (p := ⟨k.R, 7, none⟩) hRlN).trans r7, (hW.cell (p := ⟨k.R, 8, none⟩) hRlN).trans r8, (hW.cell (p := ⟨k.R, 9, none⟩) hRlN).trans r9⟩)
  have HQ10 : Hid ((∀ W : World, Below wN.heap.size wN W → W.cell? ⟨k.R, 10, none⟩ = some cvN) ∧ ∀ W : World, Below wN.heap.size wN W → W.frozen? ⟨k.R, 10, none⟩ = false) := Lib.hid ⟨fun W hW => (hW.cell (p := ⟨k.R, 10, none⟩) hRlN).trans r10, fun W hW => (hW.frozen (p := ⟨k.R, 10, none⟩) hRlN).trans (hfrN 10)⟩
  have hset20 : ∀ (W : World) (u : Value), (W.cell? ⟨k.R, 7, none⟩ = some (.int .i64 (LC : Nat)) ∧ W.cell? ⟨k.R, 8, none⟩ = some (.int .i64 (LP : Nat)) ∧ W.cell? ⟨k.R, 9, none⟩ = some (.int .i64 (PB : Nat))) → (W.setCell ⟨k.R, 10, none⟩ u).cell? ⟨k.R, 7, none⟩ = some (.int .i64 (LC : Nat)) ∧ (W.setCell ⟨k.R, 10, none⟩ u).cell? ⟨k.R, 8, none⟩ = some (.int .i64 (LP : Nat)) ∧ (W.setCell ⟨k.R, 10, none⟩ u).cell? ⟨k.R, 9, none⟩ = some (.int .i64 (PB : Nat)) := fun W u hW => ⟨(World.cell?_setCell_other _ _ _ _ (by simp)).trans hW.1, (World.cell?_setCell_other _ _ _ _ (by simp)).trans hW.2.1, (World.cell?_setCell_other _ _ _ _ (by simp)).trans hW.2.2⟩
  have hS0 := HS20.out wN.drew (drew_below _)
  clear r7 r8 r9 r10 hfrN hRlN
  refine wp_region_held_drew (S := fun W => W.cell? ⟨k.R, 7, none⟩ = some (.int .i64 (LC : Nat)) ∧ W.cell? ⟨k.R, 8, none⟩ = some (.int .i64 (LP : Nat)) ∧ W.cell? ⟨k.R, 9, none⟩ = some (.int .i64 (PB : Nat))) (by kernel_rfl) hS0 (fun hS => ?_)
  refine tk 0 (v := ?vnw51) ?ynw51 hS ?_
  case ynw51 =>
    intro w hSw
    go_simp; all_goals (with_reducible rfl)
  simp only [Act.put, List.setIfInBounds_toArray, List.set_cons_zero, List.set_cons_succ]
  refine tk 1 (v := ?vnw52) ?ynw52 hS ?_
  case ynw52 =>
    intro w hSw
    go_simp; all_goals (with_reducible rfl)
  simp only [Act.put, List.setIfInBounds_toArray, List.set_cons_zero, List.set_cons_succ]
  refine tk 2 (v := ?vnw53) ?ynw53 hS ?_
  case ynw53 =>
    intro w hSw
    go_simp; all_goals (with_reducible rfl)
  simp only [Act.put, List.setIfInBounds_toArray, List.set_cons_zero, List.set_cons_succ]
  refine tk 3 (v := ?vnw54) ?ynw54 hS ?_
  case ynw54 =>
    intro w hSw
    go_simp; all_goals (with_reducible rfl)
  simp only [Act.put, List.setIfInBounds_toArray, List.set_cons_zero, List.set_cons_succ]
  refine tk 4 (v := ?vnw55) ?ynw55 hS ?_
  case ynw55 =>
    intro w hSw
    obtain ⟨q7, q8, q9⟩ := hSw
    go_simp; all_goals (with_reducible rfl)
  simp only [Act.put, List.setIfInBounds_toArray, List.set_cons_zero, List.set_cons_succ]
  refine tk 5 (v := ?vnw56) ?ynw56 hS ?_
  case ynw56 =>
    intro w hSw
    go_simp; all_goals (with_reducible rfl)
  simp only [Act.put, List.setIfInBounds_toArray, List.set_cons_zero, List.set_cons_succ]
  refine tk 6 (v := ?vnw57) ?ynw57 hS ?_
  case ynw57 =>
    intro w hSw
    go_simp; all_goals (with_reducible rfl)
  simp only [Act.put, List.setIfInBounds_toArray, List.set_cons_zero, List.set_cons_succ]
  refine tk 7 (v := ?vnw58) ?ynw58 hS ?_
  case ynw58 =>
    intro w hSw
    go_simp; all_goals (with_reducible rfl)
  simp only [Act.put, List.setIfInBounds_toArray, List.set_cons_zero, List.set_cons_succ]
  refine tk 8 (v := ?vnw59) ?ynw59 hS ?_
  case ynw59 =>
    intro w hSw
    obtain ⟨q7, q8, q9⟩ := hSw
    go_simp; all_goals (with_reducible rfl)
  simp only [Act.put, List.setIfInBounds_toArray, List.set_cons_zero, List.set_cons_succ]
  refine tk 9 (v := ?vnw60) ?ynw60 hS ?_
  case ynw60 =>
    intro w hSw
    go_simp; all_goals (with_reducible rfl)
  simp only [Act.put, List.setIfInBounds_toArray, List.set_cons_zero, List.set_cons_succ]
  refine tk 10 (v := ?vnw61) ?ynw61 hS ?_
  case ynw61 =>
    intro w hSw
    go_simp; all_goals (with_reducible rfl)
  simp only [Act.put, List.setIfInBounds_toArray, List.set_cons_zero, List.set_cons_succ]
  refine tk 11 (v := ?vnw62) ?ynw62 hS ?_
  case ynw62 =>
    intro w hSw
    go_simp; all_goals (with_reducible rfl)
  simp only [Act.put, List.setIfInBounds_toArray, List.set_cons_zero, List.set_cons_succ]
  refine tk 12 (v := ?vnw63) ?ynw63 hS ?_
  case ynw63 =>
    intro w hSw
    obtain ⟨q7, q8, q9⟩ := hSw
    go_simp; all_goals (with_reducible rfl)
  simp only [Act.put, List.setIfInBounds_toArray, List.set_cons_zero, List.set_cons_succ]
  refine wpAnyH_ready (rs := [13]) (by kernel_rfl) (by simp) ?_
  refine (AllReadyH.cons (o := { dst := some 108, op := Op.call { callee := Callee.value (Operand.func 23), args := #[Operand.tmp 99, Operand.tmp 103, Operand.tmp 107], argTypes := #[3, 3, 3] }, type := 46, pos := "ref.go:58", after := #[{ on := 4, ground := Ground.data }, { on := 8, ground := Ground.data }, { on := 12, ground := Ground.data }], guard := none }) rfl (fun K hK => ?_) AllReadyH.nil)
  go_simp
  refine (HNEW.out _).mono ?_
  rintro e x12 ⟨C, vR, vP, rfl, hM12, hb12, hC12⟩
  have g12 := HS20.out x12 ((drew_below _).trans hb12)
  have q10 := HQ10.out.1 x12 ((drew_below _).trans hb12)
  have f10 := HQ10.out.2 x12 ((drew_below _).trans hb12)
  have H12 := Lib.hid (And.intro hM12 (And.intro hb12 hC12))
  clear hM12 hb12 hC12
  go_wp2_with fail
  refine hK.out _ _ g12 (fun _ => ?_)
  clear hK K
  refine tk 14 (v := ?vnw64) ?ynw64 g12 ?_
  case ynw64 =>
    intro w hSw
    go_simp; all_goals (with_reducible rfl)
  simp only [Act.put, List.setIfInBounds_toArray, List.set_cons_zero, List.set_cons_succ]
  refine tk 15 (v := ?vnw65) ?ynw65 g12 ?_
  case ynw65 =>
    intro w hSw
    go_simp; all_goals (with_reducible rfl)
  simp only [Act.put, List.setIfInBounds_toArray, List.set_cons_zero, List.set_cons_succ]
  refine wpAnyH_ready (rs := [16]) (by kernel_rfl) (by simp) ?_
  refine (AllReadyH.cons (o := { dst := none, op := Op.store 46 (Operand.tmp 110) (Operand.tmp 108), type := 0, pos := "ref.go:58", after := #[{ on := 15, ground := Ground.data }, { on := 13, ground := Ground.data }, { on := 13, ground := Ground.chain }, { on := 0, ground := Ground.phase }, { on := 1, ground := Ground.phase }, { on := 2, ground := Ground.phase }, { on := 3, ground := Ground.phase }, { on := 4, ground := Ground.phase }, { on := 5, ground := Ground.phase }, { on := 6, ground := Ground.phase }, { on := 7, ground := Ground.phase }, { on := 8, ground := Ground.phase }, { on := 9, ground := Ground.phase }, { on := 10, ground := Ground.phase }, { on := 11, ground := Ground.phase }, { on := 12, ground := Ground.phase }, { on := 13, ground := Ground.phase }], guard := none }) rfl (fun K hK => ?_) AllReadyH.nil)
  go_simp
  have s9 := hset20 _ (PF C) g12
  refine hK.out _ _ s9 (fun _ => ?_)
  clear hK K
  refine wpAnyH_done (by kernel_rfl) ?_ _
  clear hS hS0 hset20 HNEW q10 f10
  have hub12 := HUBN.out.of_below ((drew_below _).trans (show Below wN.heap.size wN.drew x12 from H12.out.2.1))
  have hbW := Nat.le_trans HUBN.out.bsz HUBN.out.below.size
  have hput := hub12.put 10 (PF C) (pos' := pp2) (s' := ckFresh s1) (cv' := PF C) (fun _ => rfl) rfl hub12.nums.2.2.2.1 hub12.nums.2.2.2.2
  have hc0 : CodR k.base x12 (PF C) (ckFresh s1) := fun _ _ => ⟨C, rfl, Nat.le_trans hbW H12.out.2.2, urd_new H12.out.1 hbW HLS.out.1 HLS.out.2.1 HLS.out.2.2, HPB1.out, (by decide : (0 : Nat) < 12), rGood1⟩
  obtain ⟨csN, hrN⟩ := hub12.hR
  have hcod := hc0.set (p := ⟨k.R, 10, none⟩) hrN (PF C)
  obtain ⟨wt, hwt⟩ : ∃ W, x12.setCell ⟨k.R, 10, none⟩ (PF C) = W := ⟨_, rfl⟩
  rw [hwt] at hput hcod
  have HWT := Lib.hid hwt
  obtain ⟨s2, hs2⟩ : ∃ x, ckFresh s1 = x := ⟨_, rfl⟩
  rw [hs2] at hput hcod HR
  have HT : Hid (Rk k wt pp2 s2 ∧ s2.clear = true ∧ s2.asked = false ∧ s2.out.length ≤ 400000000) := Lib.hid ⟨⟨_, hput, hcod⟩, by rw [← hs2]; exact HSF1.out.1, by rw [← hs2]; exact HSF1.out.2.1, by rw [← hs2]; exact HSF1.out.2.2⟩
  clear hub12 hbW hput hc0 hrN hcod hwt hs2 H12
  go_upto_region 21 with fail
  rw [HWT.out]
  clear HWT
  have HH3 := Lib.hid (urhas_any HT.out.1 n)
  by_cases h3 : k.B.length < pp2 + n
  · rw [decide_eq_false (show ¬ pp2 + n ≤ k.B.length by omega)] at HH3
    have HRF := Lib.hid (HR.out.trans (show unbytes k.B n z k.dict pp2 s2 = .bad 2 by unfold unbytes; exact if_pos h3))
    clear h3
    go_wp2_with fail
    refine HH3.out.mono ?_
    rintro e w5 ⟨rfl, hb5⟩
    go_wp2_with fail
    go_ret
    rw [HRF.out]
    exact ⟨rfl, (HT.out.1.of_below hb5).below⟩
  rw [decide_eq_true (show pp2 + n ≤ k.B.length by omega)] at HH3
  obtain ⟨LB, hLB⟩ : ∃ l, (k.B.drop pp2).take n = l := ⟨_, rfl⟩
  obtain ⟨p3, hp3⟩ : ∃ m, pp2 + n = m := ⟨_, rfl⟩
  have HRF := Lib.hid (HR.out.trans (show unbytes k.B n z k.dict pp2 s2 = undecode LB z k.dict p3 s2 by unfold unbytes; rw [if_neg h3, hLB, hp3]))
  have hlen : LB.length = n := by rw [← hLB]; simp; omega
  have HLB := Lib.hid (And.intro hLB (And.intro hp3 (And.intro hlen h3)))
  clear hLB hp3 hlen h3 HR
  go_wp2_with fail
  refine HH3.out.mono ?_
  rintro e w5 ⟨rfl, hb5⟩
  obtain ⟨cv, hU, hC⟩ := HT.out.1.of_below hb5
  obtain ⟨C, rfl, hCb, hCS, hperm, hst, hrg⟩ := hC HT.out.2.1 HT.out.2.2.1
  obtain ⟨v, ⟨r0, r1, _, _, _, _, _, _, _, _, _⟩, _, hfr, hRl⟩ := hU.cells
  obtain ⟨n1, n2, n3, n4, n5⟩ := hU.nums
  have hcut := (hU.bytes.1.cutFrom (k := pp2) n4 n1).take n
  rw [HLB.out.1] at hcut
  obtain ⟨AP, hAP⟩ : ∃ AP, (if k.c = pp2 then k.A else k.A.map (·.add pp2)) = AP := ⟨_, rfl⟩
  rw [hAP] at hcut
  obtain ⟨cp, hcp⟩ : ∃ m, k.c - pp2 = m := ⟨_, rfl⟩
  have hl2 := HLB.out.2.1
  have hl3 := HLB.out.2.2.2
  have hdiff : p3 - pp2 = n := by omega
  have hcl : ∀ a, AP = some a → a.block < k.base := by
    intro a ha
    rw [← hAP] at ha
    split at ha
    · exact hU.bytes.2 a ha
    · cases hA : k.A with
      | none => rw [hA] at ha; cases ha
      | some a' =>
        rw [hA] at ha
        have e : a'.add pp2 = a := by simpa using ha
        rw [← e]; exact (show (a'.add pp2).block = a'.block from by unfold Addr.add; split <;> rfl) ▸ hU.bytes.2 a' hA
  have HAP := Lib.hid (And.intro hAP (And.intro hdiff hcp))
  have HSK : Hid (∀ W : World, Below w5.heap.size w5 W → W.cell? ⟨k.R, 0, none⟩ = some (.slice k.A k.B.length k.c) ∧ W.cell? ⟨k.R, 1, none⟩ = some (.int .i64 (pp2 : Nat))) := Lib.hid (fun W hW => ⟨(hW.cell (p := ⟨k.R, 0, none⟩) hRl).trans r0, (hW.cell (p := ⟨k.R, 1, none⟩) hRl).trans r1⟩)
  have hS0 := HSK.out w5.drew (drew_below w5)
  have f1 : w5.drew.frozen? ⟨k.R, 1, none⟩ = false := hfr 1
  have HU := Lib.hid (And.intro hU (And.intro hCb (And.intro hCS (And.intro hperm (And.intro hst hrg)))))
  have HCUT := Lib.hid (And.intro hcut hcl)
  have hp3i : (pp2 : Int) + (n : Int) = (p3 : Int) := by omega
  have hpp3 : (pp2 : Int) ≤ (p3 : Int) := by omega
  have hp3L : (p3 : Int) ≤ (k.B.length : Int) := by omega
  have hLc : (k.B.length : Int) ≤ (k.c : Int) := by omega
  have hci2 : (k.c : Int) ≤ 9223372036854775807 := by omega
  have hLi : (k.B.length : Int) ≤ 140737488355328 := by omega
  have hw3 : IntKind.i64.wrap (p3 : Int) = (p3 : Int) := IntWalk.i64_in _ (by omega)
  have hp3c : p3 ≤ k.c := by omega
  have hpp3n : pp2 ≤ p3 := by omega
  have HP3 := Lib.hid (show p3 ≤ k.B.length ∧ s2.start ≤ s2.out.length by omega)
  clear hU hC hCb hCS hperm hst hrg hfr n1 n2 n3 n4 n5 hcut hAP hcp hdiff hcl hl2 hl3 hb5 r0 r1
  by_cases hgood : 5 ≤ LB.length ∧ LB.getD 0 0 = 0
  case neg =>
    obtain ⟨m, hm, hN⟩ : ∃ m : Int, m ≠ 0 ∧ ∀ W : World, Below w5.heap.size w5 W → Calls Try.prog 24 #[.slice AP LB.length cp] W (RNone W m) := by
      by_cases h5 : LB.length < 5
      · exact ⟨2, by decide, fun W _ => rdnew_short AP LB cp W h5⟩
      · exact ⟨6, by decide, fun W hW => rdnew_bad AP LB cp W (HCUT.out.1.below hW) (by omega) (fun h0 => hgood ⟨by omega, h0⟩)⟩
    rw [HLB.out.2.2.1] at hN
    have HRG := Lib.hid (HRF.out.trans (show undecode LB z k.dict p3 s2 = .bad 6 by
      unfold undecode
      by_cases h5 : LB.length < 5
      · rw [if_pos h5]
      · rw [if_neg h5, if_pos (fun h0 => hgood ⟨by omega, h0⟩)]))
    have hmb : (m == 0) = false := beq_eq_false_iff_ne.2 hm
    have hmb2 : (m != 0) = true := by rw [bne_iff_ne]; exact hm
    clear hgood HRF
    go_upto_region 23 with fail
    refine wp_region_held_drew (S := fun W => W.cell? ⟨k.R, 0, none⟩ = some (.slice k.A k.B.length k.c) ∧ W.cell? ⟨k.R, 1, none⟩ = some (.int .i64 (pp2 : Nat))) (by kernel_rfl) hS0 (fun hS => ?_)
    refine tk 0 (v := ?vne66) ?yne66 hS ?_
    case yne66 =>
      intro w hSw
      go_simp; all_goals (with_reducible rfl)
    simp only [Act.put, List.setIfInBounds_toArray, List.set_cons_zero, List.set_cons_succ]
    refine tk 1 (v := ?vne67) ?yne67 hS ?_
    case yne67 =>
      intro w hSw
      go_simp; all_goals (with_reducible rfl)
    simp only [Act.put, List.setIfInBounds_toArray, List.set_cons_zero, List.set_cons_succ]
    refine tk 2 (v := ?vne68) ?yne68 hS ?_
    case yne68 =>
      intro w hSw
      go_simp; all_goals (with_reducible rfl)
    simp only [Act.put, List.setIfInBounds_toArray, List.set_cons_zero, List.set_cons_succ]
    refine tk 3 (v := ?vne69) ?yne69 hS ?_
    case yne69 =>
      intro w hSw
      obtain ⟨q0, q1⟩ := hSw
      go_simp; all_goals (with_reducible rfl)
    simp only [Act.put, List.setIfInBounds_toArray, List.set_cons_zero, List.set_cons_succ]
    refine tk 4 (v := ?vne70) ?yne70 hS ?_
    case yne70 =>
      intro w hSw
      go_simp; all_goals (with_reducible rfl)
    simp only [Act.put, List.setIfInBounds_toArray, List.set_cons_zero, List.set_cons_succ]
    refine tk 5 (v := ?vne71) ?yne71 hS ?_
    case yne71 =>
      intro w hSw
      go_simp; all_goals (with_reducible rfl)
    simp only [Act.put, List.setIfInBounds_toArray, List.set_cons_zero, List.set_cons_succ]
    refine tk 6 (v := ?vne72) ?yne72 hS ?_
    case yne72 =>
      intro w hSw
      go_simp; all_goals (with_reducible rfl)
    simp only [Act.put, List.setIfInBounds_toArray, List.set_cons_zero, List.set_cons_succ]
    refine tk 7 (v := ?vne73) ?yne73 hS ?_
    case yne73 =>
      intro w hSw
      obtain ⟨q0, q1⟩ := hSw
      go_simp; all_goals (with_reducible rfl)
    simp only [Act.put, List.setIfInBounds_toArray, List.set_cons_zero, List.set_cons_succ]
    refine tk 8 (v := ?vne74) ?yne74 hS ?_
    case yne74 =>
      intro w hSw
      go_simp; all_goals (with_reducible rfl)
    simp only [Act.put, List.setIfInBounds_toArray, List.set_cons_zero, List.set_cons_succ]
    refine tk 9 (v := ?vne75) ?yne75 hS ?_
    case yne75 =>
      intro w hSw
      go_simp; all_goals (with_reducible rfl)
    simp only [Act.put, List.setIfInBounds_toArray, List.set_cons_zero, List.set_cons_succ]
    refine tk 10 (v := ?vne76) ?yne76 hS ?_
    case yne76 =>
      intro w hSw
      go_simp; all_goals (with_reducible rfl)
    simp only [Act.put, List.setIfInBounds_toArray, List.set_cons_zero, List.set_cons_succ]
    refine tk 11 (v := ?vne77) ?yne77 hS ?_
    case yne77 =>
      intro w hSw
      obtain ⟨q0, q1⟩ := hSw
      go_simp; all_goals (with_reducible rfl)
    simp only [Act.put, List.setIfInBounds_toArray, List.set_cons_zero, List.set_cons_succ]
    refine tk 12 (v := ?vne78) ?yne78 hS ?_
    case yne78 =>
      intro w hSw
      go_simp; all_goals (with_reducible rfl)
    simp only [Act.put, List.setIfInBounds_toArray, List.set_cons_zero, List.set_cons_succ]
    refine tk 13 (v := ?vne79) ?yne79 hS ?_
    case yne79 =>
      intro w hSw
      go_simp; all_goals (with_reducible rfl)
    simp only [Act.put, List.setIfInBounds_toArray, List.set_cons_zero, List.set_cons_succ]
    refine tk 14 (v := .slice AP n cp) ?yne80 hS ?_
    case yne80 =>
      intro w hSw
      go_simp; exact ⟨HAP.out.1, HAP.out.2.1, HAP.out.2.2⟩
    simp only [Act.put, List.setIfInBounds_toArray, List.set_cons_zero, List.set_cons_succ]
    refine wpAnyH_ready (rs := [15]) (by kernel_rfl) (by simp) ?_
    refine (AllReadyH.cons (o := { dst := some 131, op := Op.call { callee := Callee.value (Operand.func 24), args := #[Operand.tmp 130], argTypes := #[22] }, type := 67, pos := "ref.go:63", after := #[{ on := 14, ground := Ground.data }], guard := none }) rfl (fun K hK => ?_) AllReadyH.nil)
    go_simp
    refine (hN _ (drew_below w5)).mono ?_
    rintro e x7 ⟨rfl, ex⟩
    subst ex
    have g7 := hS
    go_wp2_with fail
    refine hK.out _ _ g7 (fun _ => ?_)
    clear hK K
    refine tk 16 (v := ?vne81) ?yne81 g7 ?_
    case yne81 =>
      intro w hSw
      go_simp; all_goals (with_reducible rfl)
    simp only [Act.put, List.setIfInBounds_toArray, List.set_cons_zero, List.set_cons_succ]
    refine tk 17 (v := ?vne82) ?yne82 g7 ?_
    case yne82 =>
      intro w hSw
      go_simp; all_goals (with_reducible rfl)
    simp only [Act.put, List.setIfInBounds_toArray, List.set_cons_zero, List.set_cons_succ]
    refine tk 18 (v := ?vne83) ?yne83 g7 ?_
    case yne83 =>
      intro w hSw
      go_simp; all_goals (with_reducible rfl)
    simp only [Act.put, List.setIfInBounds_toArray, List.set_cons_zero, List.set_cons_succ]
    refine tk 19 (v := ?vne84) ?yne84 g7 ?_
    case yne84 =>
      intro w hSw
      go_simp; all_goals (with_reducible rfl)
    simp only [Act.put, List.setIfInBounds_toArray, List.set_cons_zero, List.set_cons_succ]
    refine tk 20 (v := ?vne85) ?yne85 g7 ?_
    case yne85 =>
      intro w hSw
      go_simp; all_goals (with_reducible rfl)
    simp only [Act.put, List.setIfInBounds_toArray, List.set_cons_zero, List.set_cons_succ]
    refine wpAnyH_done (by kernel_rfl) ?_ _
    obtain ⟨_, q1⟩ := hS0
    clear hS hN
    go_wp2_with fail
    go_ret
    rw [HRG.out]
    exact ⟨rfl, ((HU.out.1.of_below (drew_below w5)).below).setCell (p := ⟨k.R, 1, none⟩) HU.out.1.low _⟩
  case pos =>
    obtain ⟨b, off, eAP, hbl, _⟩ := HCUT.out.1.addr (show 0 < LB.length by omega)
    have hblow : b < k.base := HCUT.out.2 _ eAP
    have HNW : Hid (∀ W : World, Below w5.heap.size w5 W → Calls Try.prog 24 #[.slice AP LB.length cp] W (RSome W b off cp LB)) := Lib.hid (fun W hW => by
      have h0 := HCUT.out.1.below hW
      rw [eAP] at h0 ⊢
      exact rdnew_good b off LB cp W h0 hgood.1 hgood.2)
    rw [HLB.out.2.2.1] at HNW
    have HGOOD := Lib.hid (And.intro hgood hblow)
    clear hbl hblow hgood eAP
    go_upto_region 23 with fail
    refine wp_region_held_drew (S := fun W => W.cell? ⟨k.R, 0, none⟩ = some (.slice k.A k.B.length k.c) ∧ W.cell? ⟨k.R, 1, none⟩ = some (.int .i64 (pp2 : Nat))) (by kernel_rfl) hS0 (fun hS => ?_)
    refine tk 0 (v := ?vpo86) ?ypo86 hS ?_
    case ypo86 =>
      intro w hSw
      go_simp; all_goals (with_reducible rfl)
    simp only [Act.put, List.setIfInBounds_toArray, List.set_cons_zero, List.set_cons_succ]
    refine tk 1 (v := ?vpo87) ?ypo87 hS ?_
    case ypo87 =>
      intro w hSw
      go_simp; all_goals (with_reducible rfl)
    simp only [Act.put, List.setIfInBounds_toArray, List.set_cons_zero, List.set_cons_succ]
    refine tk 2 (v := ?vpo88) ?ypo88 hS ?_
    case ypo88 =>
      intro w hSw
      go_simp; all_goals (with_reducible rfl)
    simp only [Act.put, List.setIfInBounds_toArray, List.set_cons_zero, List.set_cons_succ]
    refine tk 3 (v := ?vpo89) ?ypo89 hS ?_
    case ypo89 =>
      intro w hSw
      obtain ⟨q0, q1⟩ := hSw
      go_simp; all_goals (with_reducible rfl)
    simp only [Act.put, List.setIfInBounds_toArray, List.set_cons_zero, List.set_cons_succ]
    refine tk 4 (v := ?vpo90) ?ypo90 hS ?_
    case ypo90 =>
      intro w hSw
      go_simp; all_goals (with_reducible rfl)
    simp only [Act.put, List.setIfInBounds_toArray, List.set_cons_zero, List.set_cons_succ]
    refine tk 5 (v := ?vpo91) ?ypo91 hS ?_
    case ypo91 =>
      intro w hSw
      go_simp; all_goals (with_reducible rfl)
    simp only [Act.put, List.setIfInBounds_toArray, List.set_cons_zero, List.set_cons_succ]
    refine tk 6 (v := ?vpo92) ?ypo92 hS ?_
    case ypo92 =>
      intro w hSw
      go_simp; all_goals (with_reducible rfl)
    simp only [Act.put, List.setIfInBounds_toArray, List.set_cons_zero, List.set_cons_succ]
    refine tk 7 (v := ?vpo93) ?ypo93 hS ?_
    case ypo93 =>
      intro w hSw
      obtain ⟨q0, q1⟩ := hSw
      go_simp; all_goals (with_reducible rfl)
    simp only [Act.put, List.setIfInBounds_toArray, List.set_cons_zero, List.set_cons_succ]
    refine tk 8 (v := ?vpo94) ?ypo94 hS ?_
    case ypo94 =>
      intro w hSw
      go_simp; all_goals (with_reducible rfl)
    simp only [Act.put, List.setIfInBounds_toArray, List.set_cons_zero, List.set_cons_succ]
    refine tk 9 (v := ?vpo95) ?ypo95 hS ?_
    case ypo95 =>
      intro w hSw
      go_simp; all_goals (with_reducible rfl)
    simp only [Act.put, List.setIfInBounds_toArray, List.set_cons_zero, List.set_cons_succ]
    refine tk 10 (v := ?vpo96) ?ypo96 hS ?_
    case ypo96 =>
      intro w hSw
      go_simp; all_goals (with_reducible rfl)
    simp only [Act.put, List.setIfInBounds_toArray, List.set_cons_zero, List.set_cons_succ]
    refine tk 11 (v := ?vpo97) ?ypo97 hS ?_
    case ypo97 =>
      intro w hSw
      obtain ⟨q0, q1⟩ := hSw
      go_simp; all_goals (with_reducible rfl)
    simp only [Act.put, List.setIfInBounds_toArray, List.set_cons_zero, List.set_cons_succ]
    refine tk 12 (v := ?vpo98) ?ypo98 hS ?_
    case ypo98 =>
      intro w hSw
      go_simp; all_goals (with_reducible rfl)
    simp only [Act.put, List.setIfInBounds_toArray, List.set_cons_zero, List.set_cons_succ]
    refine tk 13 (v := ?vpo99) ?ypo99 hS ?_
    case ypo99 =>
      intro w hSw
      go_simp; all_goals (with_reducible rfl)
    simp only [Act.put, List.setIfInBounds_toArray, List.set_cons_zero, List.set_cons_succ]
    refine tk 14 (v := .slice AP n cp) ?ypo100 hS ?_
    case ypo100 =>
      intro w hSw
      go_simp; exact ⟨HAP.out.1, HAP.out.2.1, HAP.out.2.2⟩
    simp only [Act.put, List.setIfInBounds_toArray, List.set_cons_zero, List.set_cons_succ]
    refine wpAnyH_ready (rs := [15]) (by kernel_rfl) (by simp) ?_
    refine (AllReadyH.cons (o := { dst := some 131, op := Op.call { callee := Callee.value (Operand.func 24), args := #[Operand.tmp 130], argTypes := #[22] }, type := 67, pos := "ref.go:63", after := #[{ on := 14, ground := Ground.data }], guard := none }) rfl (fun K hK => ?_) AllReadyH.nil)
    go_simp
    refine (HNW.out _ (drew_below w5)).mono ?_
    rintro e x7 ⟨hd, rfl, hD7, hb7, hh7⟩
    have g7 := HSK.out x7 ((drew_below w5).trans hb7)
    have H7 := Lib.hid (And.intro hD7 (And.intro ((drew_below w5).trans hb7) hh7))
    clear hD7 hb7 hh7
    go_wp2_with fail
    refine hK.out _ _ g7 (fun _ => ?_)
    clear hK K
    refine tk 16 (v := ?vpo101) ?ypo101 g7 ?_
    case ypo101 =>
      intro w hSw
      go_simp; all_goals (with_reducible rfl)
    simp only [Act.put, List.setIfInBounds_toArray, List.set_cons_zero, List.set_cons_succ]
    refine tk 17 (v := ?vpo102) ?ypo102 g7 ?_
    case ypo102 =>
      intro w hSw
      go_simp; all_goals (with_reducible rfl)
    simp only [Act.put, List.setIfInBounds_toArray, List.set_cons_zero, List.set_cons_succ]
    refine tk 18 (v := ?vpo103) ?ypo103 g7 ?_
    case ypo103 =>
      intro w hSw
      go_simp; all_goals (with_reducible rfl)
    simp only [Act.put, List.setIfInBounds_toArray, List.set_cons_zero, List.set_cons_succ]
    refine tk 19 (v := ?vpo104) ?ypo104 g7 ?_
    case ypo104 =>
      intro w hSw
      go_simp; all_goals (with_reducible rfl)
    simp only [Act.put, List.setIfInBounds_toArray, List.set_cons_zero, List.set_cons_succ]
    refine tk 20 (v := ?vpo105) ?ypo105 g7 ?_
    case ypo105 =>
      intro w hSw
      go_simp; all_goals (with_reducible rfl)
    simp only [Act.put, List.setIfInBounds_toArray, List.set_cons_zero, List.set_cons_succ]
    refine wpAnyH_done (by kernel_rfl) ?_ _
    clear hS hS0 HNW
    obtain ⟨_, q1⟩ := g7
    have hU7 := HU.out.1.of_below H7.out.2.1
    have hbase := Nat.le_trans hU7.bsz hU7.below.size
    obtain ⟨_, ⟨_, _, _, _, _, _, _, _, _, _, q10⟩, _, qfr, qRl⟩ := hU7.cells
    have g1 := qfr 1
    obtain ⟨cs7, hr7⟩ := hU7.hR
    have hU8 := hU7.put 1 (.int .i64 (p3 : Nat)) (pos' := p3) (s' := s2) (cv' := PF C) (fun _ => rfl) rfl HP3.out.1 HP3.out.2
    obtain ⟨W8, hW8⟩ : ∃ W, x7.setCell ⟨k.R, 1, none⟩ (.int .i64 (p3 : Nat)) = W := ⟨_, rfl⟩
    have hD8 : RDecIs W8 hd b off cp LB (Rd.start LB) := by
      obtain ⟨x, y, h1, h2⟩ := H7.out.1
      have hRh := row_ne hr7 h2.blk (by decide)
      have hlow := hU7.low
      have hbl := HGOOD.out.2
      rw [← hW8]
      exact ⟨x, y, h1, h2.keep (by simp) (heap_setCell_other _ _ _ _ (fun e => hRh e.symm)) (heap_setCell_other _ _ _ _ (show b ≠ k.R by omega))⟩
    have hCS8 : CodS1 k.base W8 C s2 := by
      rw [← hW8]
      exact (HU.out.2.2.1.keep fun i _ _ _ hi _ => H7.out.2.1.block i (Array.getElem?_eq_some_iff.1 hi).1).keep fun i _ t _ hi ht => heap_setCell_other _ _ _ _ (row_ne hi hr7 (by rcases ht with rfl | rfl | rfl <;> decide))
    have h8s : W8.heap.size = x7.heap.size := by rw [← hW8]; simp
    rw [hW8] at hU8
    obtain ⟨RB, hRB⟩ : ∃ m, x7.heap.size = m := ⟨_, rfl⟩
    rw [hRB] at h8s
    obtain ⟨W9, hW9⟩ : ∃ W, W8.alloc (.cells #[PF hd, PF C] 71) = W := ⟨_, rfl⟩
    obtain ⟨Y, hRD, hYb, hYt⟩ := urd_make hCS8 HU.out.2.1 hD8 HGOOD.out.2 (Nat.le_trans (Nat.le_trans HU.out.1.bsz HU.out.1.below.size) H7.out.2.2) hW9
    rw [h8s] at hRD
    have hU9 := hU8.of_below (show Below W8.heap.size W8 W9 by rw [← hW9]; exact (Below.refl _ _).alloc (Nat.le_refl _) _)
    obtain ⟨v9, ⟨_, _, r2, r3, r4, _, _, _, _, _, _⟩, hov, hfr, hRl⟩ := hU9.cells
    obtain ⟨AO, cO, rfl, hcO, hmO, hBO⟩ := hov.read
    have hss := hU9.nums.2.2.2.2
    have hBH := hBO.cutFrom hss hcO
    obtain ⟨AH, hAH⟩ : ∃ AH, (if cO = s2.start then AO else AO.map (·.add s2.start)) = AH := ⟨_, rfl⟩
    rw [hAH] at hBH
    have hlen : (s2.out.drop s2.start).length = s2.out.length - s2.start := List.length_drop
    obtain ⟨hl, hhl⟩ : ∃ m, s2.out.length - s2.start = m := ⟨_, rfl⟩
    rw [hhl] at hlen
    obtain ⟨ca, hca⟩ : ∃ m, cO - s2.start = m := ⟨_, rfl⟩
    obtain ⟨RES, hRES⟩ : ∃ r, uread 0 0 0 LB s2.lc s2.lp s2.pb k.dict ((s2.out.drop s2.start).length + z) z (s2.out.drop s2.start) s2.st s2.r (s2.P, Rd.start LB) = r := ⟨_, rfl⟩
    have HRG := Lib.hid (HRF.out.trans (show undecode LB z k.dict p3 s2 = unmore LB (s2.out.drop s2.start).length p3 s2 RES by unfold undecode; rw [if_neg (by have := HGOOD.out.1.1; omega), if_neg (fun h => h HGOOD.out.1.2), hRES]))
    have hp' := of_decide_eq_true HU.out.2.2.2.1
    have hN6 : 2180 + 768 * 2 ^ (s2.lc + s2.lp) ≤ 1000000 := by
      have : 2 ^ (s2.lc + s2.lp) ≤ 2 ^ 4 := Nat.pow_le_pow_right (by decide) (by omega)
      omega
    have HUD : Hid (∀ W : World, Below W9.heap.size W9 W → Calls Try.prog 25 #[PF RB, .slice AH hl ca, .int .i64 (z : Nat), .int .i64 k.dict] W (fun e w' => RdrDone RB C k.base hd b off cp (2180 + 768 * 2 ^ (s2.lc + s2.lp)) LB s2.lc s2.lp s2.pb Y hl RES W e w' ∧ UmFine RES)) := Lib.hid (fun W hW => by
      have hrd := qread_big (gd := 0) (o := 0) (cap := 0) (hRD.below hW) ⟨Rd.start_ok HGOOD.out.1.1, by have := HLB.out.2.2.1; have := HN65.out; omega⟩ (by omega) (by omega) (by omega) HU.out.2.2.2.2.1 HU.out.2.2.2.2.2 AH (s2.out.drop s2.start) ca (hBH.below hW) (by omega) (by have := HT.out.2.2.2; omega) z (by have := HZ.out; omega) rfl hN6 k.dict HD.out.1 hRES
      rw [hlen] at hrd
      exact hrd)
    have HRES := Lib.hid hRES
    have hkY : k.R ∉ Y := by
      intro hm
      obtain ⟨cs, t, x, hc, ht⟩ := hYt _ hm
      obtain ⟨cs9, hr9⟩ := hU9.hR
      rw [hr9] at hc
      injection hc with hc
      injection hc with _ e _
      subst e
      revert ht; decide
    have HAFT : Hid (∀ W : World, Only Y W9.drew W → W.cell? ⟨k.R, 2, none⟩ = some (.int .i64 k.dict) ∧ W.cell? ⟨k.R, 3, none⟩ = some (.slice AO s2.out.length cO) ∧ W.cell? ⟨k.R, 4, none⟩ = some (.int .i64 (s2.start : Nat))) := Lib.hid (fun W hW => by
      have e := hW.block k.R hRl hkY
      exact ⟨(World.cell?_of_block (a := ⟨k.R, 2, none⟩) e).trans r2, (World.cell?_of_block (a := ⟨k.R, 3, none⟩) e).trans r3, (World.cell?_of_block (a := ⟨k.R, 4, none⟩) e).trans r4⟩)
    have hS0 : W9.drew.cell? ⟨k.R, 2, none⟩ = some (.int .i64 k.dict) ∧ W9.drew.cell? ⟨k.R, 3, none⟩ = some (.slice AO s2.out.length cO) ∧ W9.drew.cell? ⟨k.R, 4, none⟩ = some (.int .i64 (s2.start : Nat)) := ⟨r2, r3, r4⟩
    have HTH : Hid (∀ x : World, Only Y W9.drew x → RkB k x p3 s2 (PF C)) := Lib.hid (fun x hx => urk_through (hU9.of_below (drew_below W9)) hYb hYt hx)
    have hlong : ∀ q, RES = some q → q.1.length ≤ hl + z := fun q e => by have h1 := (uread_grow z _ _ _ _ (HRES.out.trans e)).2 (by omega); omega
    have HLONG := Lib.hid hlong
    have HAH := Lib.hid (And.intro hAH (And.intro hhl (And.intro hca hlen)))
    have HW8 := Lib.hid hW8
    have HW9 := Lib.hid hW9
    have HRB := Lib.hid hRB
    have hoi : (s2.out.length : Int) ≤ 400000000 := by have := HT.out.2.2.2; omega
    have hssi : (s2.start : Int) ≤ (s2.out.length : Int) := by omega
    have hcOi : (s2.out.length : Int) ≤ (cO : Int) := by omega
    have hcm : (cO : Int) ≤ 9223372036854775807 := by omega
    clear hU7 hbase qfr hr7 hU8 hW8 hD8 hCS8 h8s hRB hW9 hRD hYb hYt hU9 hov hfr hRl hcO hmO hBO hss hBH hAH hlen hhl hca hRES hp' hN6 hkY hlong r2 r3 r4 HRF
    go_upto_region 28 with fail
    rw [HW8.out, HW9.out, HRB.out]
    clear q1 q10 g1
    cases RES with
    | none =>
      refine wp_region_held_drew (S := fun W => W.cell? ⟨k.R, 2, none⟩ = some (.int .i64 k.dict) ∧ W.cell? ⟨k.R, 3, none⟩ = some (.slice AO s2.out.length cO) ∧ W.cell? ⟨k.R, 4, none⟩ = some (.int .i64 (s2.start : Nat))) (by kernel_rfl) hS0 (fun hS => ?_)
      refine tk 0 (v := ?vnn106) ?ynn106 hS ?_
      case ynn106 =>
        intro w hSw
        go_simp; all_goals (with_reducible rfl)
      simp only [Act.put, List.setIfInBounds_toArray, List.set_cons_zero, List.set_cons_succ]
      refine tk 1 (v := ?vnn107) ?ynn107 hS ?_
      case ynn107 =>
        intro w hSw
        go_simp; all_goals (with_reducible rfl)
      simp only [Act.put, List.setIfInBounds_toArray, List.set_cons_zero, List.set_cons_succ]
      refine tk 2 (v := ?vnn108) ?ynn108 hS ?_
      case ynn108 =>
        intro w hSw
        go_simp; all_goals (with_reducible rfl)
      simp only [Act.put, List.setIfInBounds_toArray, List.set_cons_zero, List.set_cons_succ]
      refine tk 3 (v := ?vnn109) ?ynn109 hS ?_
      case ynn109 =>
        intro w hSw
        go_simp; all_goals (with_reducible rfl)
      simp only [Act.put, List.setIfInBounds_toArray, List.set_cons_zero, List.set_cons_succ]
      refine tk 4 (v := ?vnn110) ?ynn110 hS ?_
      case ynn110 =>
        intro w hSw
        obtain ⟨q2, q3, q4⟩ := hSw
        go_simp; all_goals (with_reducible rfl)
      simp only [Act.put, List.setIfInBounds_toArray, List.set_cons_zero, List.set_cons_succ]
      refine tk 5 (v := ?vnn111) ?ynn111 hS ?_
      case ynn111 =>
        intro w hSw
        go_simp; all_goals (with_reducible rfl)
      simp only [Act.put, List.setIfInBounds_toArray, List.set_cons_zero, List.set_cons_succ]
      refine tk 6 (v := ?vnn112) ?ynn112 hS ?_
      case ynn112 =>
        intro w hSw
        go_simp; all_goals (with_reducible rfl)
      simp only [Act.put, List.setIfInBounds_toArray, List.set_cons_zero, List.set_cons_succ]
      refine tk 7 (v := ?vnn113) ?ynn113 hS ?_
      case ynn113 =>
        intro w hSw
        go_simp; all_goals (with_reducible rfl)
      simp only [Act.put, List.setIfInBounds_toArray, List.set_cons_zero, List.set_cons_succ]
      refine tk 8 (v := ?vnn114) ?ynn114 hS ?_
      case ynn114 =>
        intro w hSw
        obtain ⟨q2, q3, q4⟩ := hSw
        go_simp; all_goals (with_reducible rfl)
      simp only [Act.put, List.setIfInBounds_toArray, List.set_cons_zero, List.set_cons_succ]
      refine tk 9 (v := .slice AH hl ca) ?ynn115 hS ?_
      case ynn115 =>
        intro w hSw
        go_simp; exact ⟨HAH.out.1, HAH.out.2.1, HAH.out.2.2.1⟩
      simp only [Act.put, List.setIfInBounds_toArray, List.set_cons_zero, List.set_cons_succ]
      refine tk 10 (v := ?vnn116) ?ynn116 hS ?_
      case ynn116 =>
        intro w hSw
        go_simp; all_goals (with_reducible rfl)
      simp only [Act.put, List.setIfInBounds_toArray, List.set_cons_zero, List.set_cons_succ]
      refine tk 11 (v := ?vnn117) ?ynn117 hS ?_
      case ynn117 =>
        intro w hSw
        go_simp; all_goals (with_reducible rfl)
      simp only [Act.put, List.setIfInBounds_toArray, List.set_cons_zero, List.set_cons_succ]
      refine tk 12 (v := ?vnn118) ?ynn118 hS ?_
      case ynn118 =>
        intro w hSw
        go_simp; all_goals (with_reducible rfl)
      simp only [Act.put, List.setIfInBounds_toArray, List.set_cons_zero, List.set_cons_succ]
      refine tk 13 (v := ?vnn119) ?ynn119 hS ?_
      case ynn119 =>
        intro w hSw
        go_simp; all_goals (with_reducible rfl)
      simp only [Act.put, List.setIfInBounds_toArray, List.set_cons_zero, List.set_cons_succ]
      refine tk 14 (v := ?vnn120) ?ynn120 hS ?_
      case ynn120 =>
        intro w hSw
        obtain ⟨q2, q3, q4⟩ := hSw
        go_simp; all_goals (with_reducible rfl)
      simp only [Act.put, List.setIfInBounds_toArray, List.set_cons_zero, List.set_cons_succ]
      refine wpAnyH_ready (rs := [15]) (by kernel_rfl) (by simp) ?_
      refine (AllReadyH.cons (o := { dst := some 168, op := Op.call { callee := Callee.value (Operand.func 25), args := #[Operand.tmp 153, Operand.tmp 162, Operand.tmp 163, Operand.tmp 167], argTypes := #[69, 22, 3, 3] }, type := 72, pos := "ref.go:69", after := #[{ on := 0, ground := Ground.data }, { on := 9, ground := Ground.data }, { on := 10, ground := Ground.data }, { on := 14, ground := Ground.data }], guard := none }) rfl (fun K hK => ?_) AllReadyH.nil)
      go_simp
      refine (HUD.out _ (drew_below _)).mono ?_
      rintro e x19 ⟨⟨rfl, hon⟩, _⟩
      have g19 := HAFT.out _ hon
      have HON := Lib.hid hon
      clear hon
      go_wp2_with fail
      refine hK.out _ _ g19 (fun _ => ?_)
      clear hK K
      refine tk 16 (v := ?vnn121) ?ynn121 g19 ?_
      case ynn121 =>
        intro w hSw
        go_simp; all_goals (with_reducible rfl)
      simp only [Act.put, List.setIfInBounds_toArray, List.set_cons_zero, List.set_cons_succ]
      refine tk 17 (v := ?vnn122) ?ynn122 g19 ?_
      case ynn122 =>
        intro w hSw
        go_simp; all_goals (with_reducible rfl)
      simp only [Act.put, List.setIfInBounds_toArray, List.set_cons_zero, List.set_cons_succ]
      refine tk 18 (v := ?vnn123) ?ynn123 g19 ?_
      case ynn123 =>
        intro w hSw
        go_simp; all_goals (with_reducible rfl)
      simp only [Act.put, List.setIfInBounds_toArray, List.set_cons_zero, List.set_cons_succ]
      refine tk 19 (v := ?vnn124) ?ynn124 g19 ?_
      case ynn124 =>
        intro w hSw
        go_simp; all_goals (with_reducible rfl)
      simp only [Act.put, List.setIfInBounds_toArray, List.set_cons_zero, List.set_cons_succ]
      refine tk 20 (v := ?vnn125) ?ynn125 g19 ?_
      case ynn125 =>
        intro w hSw
        go_simp; all_goals (with_reducible rfl)
      simp only [Act.put, List.setIfInBounds_toArray, List.set_cons_zero, List.set_cons_succ]
      refine wpAnyH_done (by kernel_rfl) ?_ _
      clear hS hS0 HUD HAFT
      go_wp2_with fail
      go_ret
      rw [HRG.out]
      exact ⟨rfl, (HTH.out _ HON.out).below⟩
    | some q =>
      obtain ⟨T9, st9, r9, y9⟩ := q
      refine wp_region_held_drew (S := fun W => W.cell? ⟨k.R, 2, none⟩ = some (.int .i64 k.dict) ∧ W.cell? ⟨k.R, 3, none⟩ = some (.slice AO s2.out.length cO) ∧ W.cell? ⟨k.R, 4, none⟩ = some (.int .i64 (s2.start : Nat))) (by kernel_rfl) hS0 (fun hS => ?_)
      refine tk 0 (v := ?vns126) ?yns126 hS ?_
      case yns126 =>
        intro w hSw
        go_simp; all_goals (with_reducible rfl)
      simp only [Act.put, List.setIfInBounds_toArray, List.set_cons_zero, List.set_cons_succ]
      refine tk 1 (v := ?vns127) ?yns127 hS ?_
      case yns127 =>
        intro w hSw
        go_simp; all_goals (with_reducible rfl)
      simp only [Act.put, List.setIfInBounds_toArray, List.set_cons_zero, List.set_cons_succ]
      refine tk 2 (v := ?vns128) ?yns128 hS ?_
      case yns128 =>
        intro w hSw
        go_simp; all_goals (with_reducible rfl)
      simp only [Act.put, List.setIfInBounds_toArray, List.set_cons_zero, List.set_cons_succ]
      refine tk 3 (v := ?vns129) ?yns129 hS ?_
      case yns129 =>
        intro w hSw
        go_simp; all_goals (with_reducible rfl)
      simp only [Act.put, List.setIfInBounds_toArray, List.set_cons_zero, List.set_cons_succ]
      refine tk 4 (v := ?vns130) ?yns130 hS ?_
      case yns130 =>
        intro w hSw
        obtain ⟨q2, q3, q4⟩ := hSw
        go_simp; all_goals (with_reducible rfl)
      simp only [Act.put, List.setIfInBounds_toArray, List.set_cons_zero, List.set_cons_succ]
      refine tk 5 (v := ?vns131) ?yns131 hS ?_
      case yns131 =>
        intro w hSw
        go_simp; all_goals (with_reducible rfl)
      simp only [Act.put, List.setIfInBounds_toArray, List.set_cons_zero, List.set_cons_succ]
      refine tk 6 (v := ?vns132) ?yns132 hS ?_
      case yns132 =>
        intro w hSw
        go_simp; all_goals (with_reducible rfl)
      simp only [Act.put, List.setIfInBounds_toArray, List.set_cons_zero, List.set_cons_succ]
      refine tk 7 (v := ?vns133) ?yns133 hS ?_
      case yns133 =>
        intro w hSw
        go_simp; all_goals (with_reducible rfl)
      simp only [Act.put, List.setIfInBounds_toArray, List.set_cons_zero, List.set_cons_succ]
      refine tk 8 (v := ?vns134) ?yns134 hS ?_
      case yns134 =>
        intro w hSw
        obtain ⟨q2, q3, q4⟩ := hSw
        go_simp; all_goals (with_reducible rfl)
      simp only [Act.put, List.setIfInBounds_toArray, List.set_cons_zero, List.set_cons_succ]
      refine tk 9 (v := .slice AH hl ca) ?yns135 hS ?_
      case yns135 =>
        intro w hSw
        go_simp; exact ⟨HAH.out.1, HAH.out.2.1, HAH.out.2.2.1⟩
      simp only [Act.put, List.setIfInBounds_toArray, List.set_cons_zero, List.set_cons_succ]
      refine tk 10 (v := ?vns136) ?yns136 hS ?_
      case yns136 =>
        intro w hSw
        go_simp; all_goals (with_reducible rfl)
      simp only [Act.put, List.setIfInBounds_toArray, List.set_cons_zero, List.set_cons_succ]
      refine tk 11 (v := ?vns137) ?yns137 hS ?_
      case yns137 =>
        intro w hSw
        go_simp; all_goals (with_reducible rfl)
      simp only [Act.put, List.setIfInBounds_toArray, List.set_cons_zero, List.set_cons_succ]
      refine tk 12 (v := ?vns138) ?yns138 hS ?_
      case yns138 =>
        intro w hSw
        go_simp; all_goals (with_reducible rfl)
      simp only [Act.put, List.setIfInBounds_toArray, List.set_cons_zero, List.set_cons_succ]
      refine tk 13 (v := ?vns139) ?yns139 hS ?_
      case yns139 =>
        intro w hSw
        go_simp; all_goals (with_reducible rfl)
      simp only [Act.put, List.setIfInBounds_toArray, List.set_cons_zero, List.set_cons_succ]
      refine tk 14 (v := ?vns140) ?yns140 hS ?_
      case yns140 =>
        intro w hSw
        obtain ⟨q2, q3, q4⟩ := hSw
        go_simp; all_goals (with_reducible rfl)
      simp only [Act.put, List.setIfInBounds_toArray, List.set_cons_zero, List.set_cons_succ]
      refine wpAnyH_ready (rs := [15]) (by kernel_rfl) (by simp) ?_
      refine (AllReadyH.cons (o := { dst := some 168, op := Op.call { callee := Callee.value (Operand.func 25), args := #[Operand.tmp 153, Operand.tmp 162, Operand.tmp 163, Operand.tmp 167], argTypes := #[69, 22, 3, 3] }, type := 72, pos := "ref.go:69", after := #[{ on := 0, ground := Ground.data }, { on := 9, ground := Ground.data }, { on := 10, ground := Ground.data }, { on := 14, ground := Ground.data }], guard := none }) rfl (fun K hK => ?_) AllReadyH.nil)
      go_simp
      refine (HUD.out _ (drew_below _)).mono ?_
      rintro e x19 ⟨⟨A9, c9, rfl, hc9, hm9, hB9, Y9, hM9, hon⟩, hfine⟩
      have g19 := HAFT.out _ hon
      have HON := Lib.hid hon
      have H9 := Lib.hid (And.intro hB9 (And.intro hM9 (hfine _ rfl)))
      clear hon hB9 hM9 hfine
      go_wp2_with fail
      refine hK.out _ _ g19 (fun _ => ?_)
      clear hK K
      refine tk 16 (v := ?vns141) ?yns141 g19 ?_
      case yns141 =>
        intro w hSw
        go_simp; all_goals (with_reducible rfl)
      simp only [Act.put, List.setIfInBounds_toArray, List.set_cons_zero, List.set_cons_succ]
      refine tk 17 (v := ?vns142) ?yns142 g19 ?_
      case yns142 =>
        intro w hSw
        go_simp; all_goals (with_reducible rfl)
      simp only [Act.put, List.setIfInBounds_toArray, List.set_cons_zero, List.set_cons_succ]
      refine tk 18 (v := ?vns143) ?yns143 g19 ?_
      case yns143 =>
        intro w hSw
        go_simp; all_goals (with_reducible rfl)
      simp only [Act.put, List.setIfInBounds_toArray, List.set_cons_zero, List.set_cons_succ]
      refine tk 19 (v := ?vns144) ?yns144 g19 ?_
      case yns144 =>
        intro w hSw
        go_simp; all_goals (with_reducible rfl)
      simp only [Act.put, List.setIfInBounds_toArray, List.set_cons_zero, List.set_cons_succ]
      refine tk 20 (v := ?vns145) ?yns145 g19 ?_
      case yns145 =>
        intro w hSw
        go_simp; all_goals (with_reducible rfl)
      simp only [Act.put, List.setIfInBounds_toArray, List.set_cons_zero, List.set_cons_succ]
      refine wpAnyH_done (by kernel_rfl) ?_ _
      clear hS hS0 HUD HAFT
      have HDN := Lib.hid (rddone_any hd b off cp LB y9.2 x19 (urd_back H9.out.2.1 []).2)
      have hm19 : T9.length - hl ≤ 4000000 := by have h1 : T9.length ≤ hl + z := HLONG.out _ rfl; have := HZ.out; omega
      have HM19 := Lib.hid hm19
      clear hm19
      cases hdn : y9.2.done LB with
      | false =>
        rw [hdn] at HDN
        have HRH := Lib.hid (HRG.out.trans (show unmore LB (s2.out.drop s2.start).length p3 s2 (some (T9, st9, r9, y9)) = .bad 6 by unfold unmore; exact if_neg (by rw [hdn]; decide)))
        go_wp2_with fail
        refine HDN.out.mono ?_
        rintro e x20 ⟨rfl, hb20⟩
        go_wp2_with fail
        go_ret
        rw [HRH.out]
        exact ⟨rfl, ((HTH.out _ HON.out).of_below hb20).below⟩
      | true =>
        rw [hdn] at HDN
        have HRH := Lib.hid (HRG.out.trans (show unmore LB (s2.out.drop s2.start).length p3 s2 (some (T9, st9, r9, y9)) = .go p3 { s2 with out := s2.out ++ T9.drop hl, st := st9, r := r9, P := y9.1 } by unfold unmore; rw [HAH.out.2.2.2]; exact if_pos hdn))
        clear hdn
        go_wp2_with fail
        refine HDN.out.mono ?_
        rintro e x20 ⟨rfl, hb20⟩
        have hU20 := (HTH.out _ HON.out).of_below hb20
        have hM20 := (urd_back H9.out.2.1 (s2.out ++ T9.drop hl)).1.keep (fun i _ _ _ hi _ => hb20.block i (Array.getElem?_eq_some_iff.1 hi).1)
        obtain ⟨vo, ⟨_, _, _, r3, _, _, _, _, _, _, _⟩, hov, hfr, hRl⟩ := hU20.cells
        obtain ⟨AO2, cO2, rfl, hcO2, hmO2, hBO2⟩ := hov.read
        have hGA : Below x20.heap.size x20 (x20.alloc (.cells #[] 5)) := (Below.refl _ _).alloc (Nat.le_refl _) _
        have hA3 := (hGA.cell (p := ⟨k.R, 3, none⟩) hRl).trans r3
        have HX := Lib.hid (And.intro hU20 (And.intro hM20 (And.intro hBO2 (And.intro (H9.out.1.below hb20) hGA))))
        have HR3 : Hid ((∀ W : World, Below x20.heap.size x20 W → W.cell? ⟨k.R, 3, none⟩ = some (.slice AO2 s2.out.length cO2)) ∧ ∀ W : World, Below x20.heap.size x20 W → W.frozen? ⟨k.R, 3, none⟩ = false) := Lib.hid ⟨fun W hW => (hW.cell (p := ⟨k.R, 3, none⟩) hRl).trans r3, fun W hW => (hW.frozen (p := ⟨k.R, 3, none⟩) hRl).trans (hfr 3)⟩
        have HCO2 := Lib.hid (show CodR k.base x20 (PF C) { s2 with out := s2.out ++ T9.drop hl, st := st9, r := r9, P := y9.1 } from fun _ _ => ⟨C, rfl, HU.out.2.1, hM20, HU.out.2.2.2.1, H9.out.2.2.1, H9.out.2.2.2⟩)
        clear hU20 hM20 hov hfr hBO2 hGA hb20 hcO2 hmO2
        go_upto_region 31 with fail
        go_wp2_with (first
          | (at_builtin; refine wpList_append_bytes rfl (.tmp 179) (.tmp 183) rfl x20.heap.size (x20.alloc (.cells #[] 5)) (.slice (some ⟨x20.heap.size, 0, none⟩) 0 0) [] rfl (empty_own x20) AO2 s2.out cO2 rfl (HX.out.2.2.1.below HX.out.2.2.2.2) (by have := HT.out.2.2.2; simp; omega) HX.out.2.2.2.2.size ?_; intro v7 w7 ho7 hg7; have H10 := Lib.hid (And.intro (show Own x20.heap.size w7 v7 s2.out from ho7) (below_grown HX.out.2.2.2.2 hg7 HX.out.2.2.2.2.size (fun g e => ((empty_own x20).from_base g e).1))); clear ho7 hg7)
          | (at_builtin; refine wpList_append_bytes rfl (.tmp 184) (.tmp 185) rfl x20.heap.size w7 v7 s2.out rfl H10.out.1 A9 (T9.drop hl) c9 (by rw [List.length_drop]; rfl) (HX.out.2.2.2.1.below H10.out.2) (by have := HT.out.2.2.2; have := HM19.out; rw [List.length_drop]; omega) H10.out.2.size ?_; intro v8 w8 ho8 hg8; obtain ⟨A8, n8, c8, e8⟩ := ho8.shape; subst e8; have H11 := Lib.hid (And.intro ho8 (below_grown H10.out.2 hg8 H10.out.2.size (fun g e => (H10.out.1.from_base g e).1))); have hc8 := HR3.out.1 w8 H11.out.2; have hf8 := HR3.out.2 w8 H11.out.2; clear ho8 hg8))
        go_ret
        rw [HRH.out]
        have hU21 := HX.out.1.of_below H11.out.2
        obtain ⟨cs21, hr21⟩ := hU21.hR
        have u1 := hU21.putOut (H11.out.1.weaken (Nat.le_trans HX.out.1.bsz HX.out.1.below.size)) (by rw [List.length_append]; exact Nat.le_add_right _ _)
        exact ⟨rfl, PF C, u1.same (fun _ => rfl) rfl rfl, (HCO2.out.of_below H11.out.2).set (p := ⟨k.R, 3, none⟩) hr21 _⟩
end Go.Proofs.Ytkckjjchfccdjaa
