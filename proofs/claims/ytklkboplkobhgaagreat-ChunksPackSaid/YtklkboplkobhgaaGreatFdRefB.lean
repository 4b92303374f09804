/- Several texts in one: FdRef, FdBack. -/
import Derived.Test.YtklkboplkobhgaaGreatFdAll
/- The reference's cut, Like, Back. -/
namespace Go.Proofs.YtklkboplkobhgaaGreat
set_option maxRecDepth 100000
open Go.RowKit

theorem cut_any (a b : Int) (w : World) : Calls Tryz.prog 80 #[.int .i64 a, .int .i64 b] w fun e w' => e = .returned (.int .i64 (min a b)) ∧ w = w' := by
  by_cases h : a < b
  · have e : min a b = a := by omega
    rw [e]
    clear e
    go_enter Tryz.func80, Tryz.ntmps80
    go_wp2_with fail
    go_ret
    exact ⟨rfl, rfl⟩
  · have e : min a b = b := by omega
    rw [e]
    clear e
    go_enter Tryz.func80, Tryz.ntmps80
    go_wp2_with fail
    go_ret
    exact ⟨rfl, rfl⟩
set_option maxRecDepth 100000 in
set_option maxHeartbeats 2000000 in
theorem rlike_any (A : Option Addr) (l : List UInt8) (c : Nat) (p k : Nat) (most : Int) (w : World) (hB : Bytes w A l) (hc : l.length ≤ c) (hl : l.length ≤ 100000) (hp : p < l.length) (hk : 1 ≤ k) (hkp : k ≤ p) :
    Calls Tryz.prog 79 #[.slice A l.length c, .int .i64 (p : Nat), .int .i64 (k : Nat), .int .i64 most] w fun e w' => e = .returned (.int .i64 (eqLen l p (p - k) (lim l p most) : Nat)) ∧ ∃ m, w' = w.drewN m := by
  obtain ⟨b, off, rfl, hbl, hat⟩ := hB.addr (by omega)
  have HAT := Lib.hid hat
  have hli : (l.length : Int) ≤ 100000 := by omega
  have hci : (l.length : Int) ≤ (c : Int) := by omega
  have HL := Lib.hid (fun n => @lim_lt l p n most)
  have HLE := Lib.hid (lim_le l p most (by omega))
  obtain ⟨L, hL⟩ : ∃ L, lim l p most = L := ⟨_, rfl⟩
  rw [hL] at HL HLE ⊢
  have HU := Lib.hid (fun n (h : IsLen l p (p - k) L n) => h.is)
  obtain ⟨E, hE⟩ : ∃ E, eqLen l p (p - k) L = E := ⟨_, rfl⟩
  rw [hE] at HU ⊢
  have hpi : (p : Int) ≤ 100000 := by omega
  have HK := Lib.hid (And.intro hk (And.intro hkp hl))
  clear hB hat hbl hL hE hl hk hkp
  go_enter Tryz.func79, Tryz.ntmps79
  go_wp2_with fail
  go_loopw [9] (fun i wr => ∃ (n m : Nat), n ≤ L ∧ i = .int .i64 (n : Nat) ∧ Hid (∀ i, i < n → l.getD (p + i) 0 = l.getD (p - k + i) 0) ∧ wr = w.drewN m) (fun i _ => L - (intOf i).toNat)
  case atStart => exact ⟨0, 0, by omega, rfl, Lib.hid (fun i h => by cases h), rfl⟩
  case round =>
    obtain ⟨n, m, hn, rfl, HEQ, rfl⟩ := hrel
    by_cases hnl : n < L
    · obtain ⟨h1, h2⟩ := (HL.out n).1 hnl
      obtain ⟨x, hx⟩ : ∃ x : Nat, p + n = x := ⟨_, rfl⟩
      have hxi : (p : Int) + (n : Int) = (x : Int) := by omega
      rw [hxi] at h2
      obtain ⟨y, hy⟩ : ∃ y : Nat, p - k + n = y := ⟨_, rfl⟩
      have hyi : (x : Int) - (k : Int) = (y : Int) := by have := HK.out; omega
      have hyl : (y : Int) < (l.length : Int) := by have := HK.out; omega
      have cx := HAT.out x (by omega)
      have cy := HAT.out y (by omega)
      have HX : Hid (p + n = x ∧ p - k + n = y) := Lib.hid ⟨hx, hy⟩
      have hni : (n : Int) ≤ 100000 := by omega
      have e1 := getD_of (d := l) (i := x) (by omega)
      have e2 := getD_of (d := l) (i := y) (by omega)
      generalize l[x]'(by omega) = u at *
      generalize l[y]'(by omega) = v at *
      have HE12 := Lib.hid (And.intro e1 e2)
      clear e1 e2 hx hy
      by_cases huv : u = v
      · have huv' : ((u.toNat : Int) == (v.toNat : Int)) = true := by rw [huv]; simp
        have HQ : Hid (∀ i, i < n + 1 → l.getD (p + i) 0 = l.getD (p - k + i) 0) := Lib.hid (fun i hi => by
          rcases Nat.lt_or_ge i n with h | h
          · exact HEQ.out i h
          · obtain rfl : i = n := by omega
            rw [HX.out.1, HX.out.2, HE12.out.1, HE12.out.2, huv])
        clear huv
        go_wp2_with fail
        go_quiet (fail)
        go_wp2_with fail
        exact ⟨⟨n + 1, _, by omega, by go_num, HQ, rfl⟩, by simp [intOf]; omega⟩
      · have huv' : ((u.toNat : Int) == (v.toNat : Int)) = false := by
          rw [beq_eq_false_iff_ne]; intro h; exact huv (UInt8.toNat_inj.1 (by omega))
        have HN : Hid (n = E) := Lib.hid (HU.out n ⟨by omega, HEQ.out, .inr (by rw [HX.out.1, HX.out.2, HE12.out.1, HE12.out.2]; exact huv)⟩)
        clear huv
        go_wp2_with fail
        go_quiet (fail)
        go_wp2_with fail
        go_ret
        exact ⟨by rw [HN.out]; rfl, _, World.drewN_drewN ..⟩
    · obtain rfl : n = L := by omega
      have HN : Hid (n = E) := Lib.hid (HU.out n ⟨by omega, HEQ.out, .inl rfl⟩)
      have hor := mt (HL.out n).2 hnl
      by_cases h1 : (n : Int) < most
      · have h2 : ¬ (p : Int) + (n : Int) < (l.length : Int) := fun h => hor ⟨h1, h⟩
        have hni : (n : Int) ≤ 100000 := by have := HLE.out; omega
        clear hor
        go_wp2_with fail
        go_ret
        exact ⟨by rw [HN.out]; rfl, _, rfl⟩
      · clear hor
        go_wp2_with fail
        go_ret
        exact ⟨by rw [HN.out]; rfl, _, rfl⟩
set_option maxRecDepth 100000 in
set_option maxHeartbeats 2000000 in
theorem rbest_any (A : Option Addr) (l : List UInt8) (c : Nat) (dict nice : Int) (p : Nat) (most : Int) (w : World) (hB : Bytes w A l) (hc : l.length ≤ c) (hl : l.length ≤ 100000) (hp : p < l.length) :
    Calls Tryz.prog 59 #[.slice A l.length c, .int .i64 dict, .int .i64 nice, .int .i64 (p : Nat), .int .i64 most] w fun e w' => e = .returned (.tuple #[.int .i64 ((bestOf l dict nice p most).1 : Nat), .int .i64 ((bestOf l dict nice p most).2 : Nat)]) ∧ ∃ m, w' = w.drewN m := by
  have HCU := Lib.hid (cut_any nice most)
  have HLK := Lib.hid (fun k m (h1 : 1 ≤ k) (h2 : k ≤ p) => rlike_any A l c p k (min nice most) (w.drewN m) hB hc hl hp h1 h2)
  have hpi : (p : Int) ≤ 100000 := by omega
  unfold bestOf
  obtain ⟨f, hf⟩ : ∃ f : Nat → Nat, (fun k => eqLen l p (p - k) (lim l p (min nice most))) = f := ⟨_, rfl⟩
  have HF : Hid (∀ k, eqLen l p (p - k) (lim l p (min nice most)) = f k) := Lib.hid (fun k => by rw [← hf])
  rw [hf]
  obtain ⟨D, hD⟩ : ∃ D, (min (p : Int) dict).toNat = D := ⟨_, rfl⟩
  rw [hD]
  have HD : Hid (∀ q : Nat, 1 ≤ q → ((q : Int) ≤ (p : Int) ∧ (q : Int) ≤ dict ↔ q ≤ D)) := Lib.hid (fun q h => by omega)
  have HDP : Hid (D ≤ p) := Lib.hid (by omega)
  obtain ⟨RR, hRR⟩ : ∃ RR, (if (bestTo f D).1 < 2 then (0, 0) else bestTo f D) = RR := ⟨_, rfl⟩
  rw [hRR]
  have HRR := Lib.hid hRR
  clear hRR
  clear hf hD hB hc hl hp
  go_enter Tryz.func59, Tryz.ntmps59
  go_wp2_with fail
  go_loopw [12, 13, 14] (fun a b i wr => ∃ (q m : Nat), q ≤ D ∧ i = .int .i64 ((q + 1 : Nat) : Int) ∧ a = .int .i64 ((bestTo f q).1 : Nat) ∧ b = .int .i64 ((bestTo f q).2 : Nat) ∧ wr = w.drewN m) (fun _ _ i _ => D + 1 - (intOf i).toNat)
  case atStart => exact ⟨0, 0, by omega, rfl, rfl, rfl, rfl⟩
  case round =>
    obtain ⟨q, m, hq, rfl, rfl, rfl, rfl⟩ := hrel
    by_cases hqD : q < D
    · obtain ⟨h1, h2⟩ := (HD.out (q + 1) (by omega)).2 hqD
      have HL1 := Lib.hid (HLK.out (q + 1) m (by omega) (by have := HDP.out; omega))
      rw [HF.out] at HL1
      have HB : Hid (bestTo f (q + 1) = if (bestTo f q).1 < f (q + 1) then (f (q + 1), q + 1) else bestTo f q) := Lib.hid rfl
      have hqp : q + 1 ≤ 100000 := by have := HDP.out; omega
      obtain ⟨Q, hQ⟩ : ∃ Q, q + 1 = Q := ⟨_, rfl⟩
      rw [hQ] at h1 h2 HL1 HB hqp ⊢
      have HQ := Lib.hid hQ
      clear hQ
      generalize bestTo f q = bb at *
      obtain ⟨X, Y⟩ := bb
      have hQi : (Q : Int) ≤ 100000 := by omega
      by_cases hgt : X < f Q
      · rw [if_pos hgt] at HB
        have hgi : (X : Int) < (f Q : Nat) := by omega
        generalize f Q = Z at *
        clear hgt
        go_wp2_with fail
        refine (HCU.out _).mono ?_
        rintro e w1 ⟨rfl, rfl⟩
        go_wp2_with fail
        refine HL1.out.mono ?_
        rintro e w1 ⟨rfl, m1, rfl⟩
        go_wp2_with fail
        exact ⟨⟨Q, _, by have := HQ.out; omega, by go_num, by rw [HB.out], by rw [HB.out], rfl⟩, by have := HQ.out; simp [intOf]; omega⟩
      · rw [if_neg hgt] at HB
        have hgi : ¬ (X : Int) < (f Q : Nat) := by omega
        generalize f Q = Z at *
        clear hgt
        go_wp2_with fail
        refine (HCU.out _).mono ?_
        rintro e w1 ⟨rfl, rfl⟩
        go_wp2_with fail
        refine HL1.out.mono ?_
        rintro e w1 ⟨rfl, m1, rfl⟩
        go_wp2_with fail
        exact ⟨⟨Q, _, by have := HQ.out; omega, by go_num, by rw [HB.out], by rw [HB.out], rfl⟩, by have := HQ.out; simp [intOf]; omega⟩
    · obtain rfl : q = D := by omega
      have hor := mt (HD.out (q + 1) (by omega)).1 (by omega)
      obtain ⟨Q, hQ⟩ : ∃ Q, q + 1 = Q := ⟨_, rfl⟩
      rw [hQ] at hor ⊢
      clear hQ
      generalize bestTo f q = bb at *
      obtain ⟨X, Y⟩ := bb
      by_cases h2 : X < 2
      · have HR2 : Hid ((0, 0) = RR) := Lib.hid (by rw [← HRR.out, if_pos h2])
        have h2i : (X : Int) < 2 := by omega
        clear h2
        by_cases h1 : (Q : Int) ≤ (p : Int)
        · have h3 : ¬ (Q : Int) ≤ dict := fun h => hor ⟨h1, h⟩
          clear hor
          go_wp2_with fail
          go_ret2
          exact ⟨by rw [← HR2.out]; rfl, _, rfl⟩
        · clear hor
          go_wp2_with fail
          go_ret2
          exact ⟨by rw [← HR2.out]; rfl, _, rfl⟩
      · have HR2 : Hid ((X, Y) = RR) := Lib.hid (by rw [← HRR.out, if_neg h2])
        have h2i : ¬ (X : Int) < 2 := by omega
        clear h2
        by_cases h1 : (Q : Int) ≤ (p : Int)
        · have h3 : ¬ (Q : Int) ≤ dict := fun h => hor ⟨h1, h⟩
          clear hor
          go_wp2_with fail
          go_ret2
          exact ⟨by rw [← HR2.out]; rfl, _, rfl⟩
        · clear hor
          go_wp2_with fail
          go_ret2
          exact ⟨by rw [← HR2.out]; rfl, _, rfl⟩
end Go.Proofs.YtklkboplkobhgaaGreat

/- The reference's Back; cuts of data. -/
namespace Go.Proofs.YtklkboplkobhgaaGreat
set_option maxRecDepth 100000
open Go.RowKit

set_option maxRecDepth 100000 in
set_option maxHeartbeats 1500000 in
theorem rback_any (A : Option Addr) (l : List UInt8) (c : Nat) (dict place dist most : Int) (w : World) (hB : Bytes w A l) (hc : l.length ≤ c) (hl : l.length ≤ 100000) :
    Calls Tryz.prog 58 #[.slice A l.length c, .int .i64 dict, .int .i64 place, .int .i64 dist, .int .i64 most] w fun e w' => e = .returned (.int .i64 (backOf l dict place dist most : Nat)) ∧ ∃ m, w' = w.drewN m := by
  have hci : (l.length : Int) ≤ (c : Int) := by omega
  have HCU := Lib.hid (cut_any 273 most)
  unfold backOf
  by_cases h1 : place < 0
  · rw [if_neg (fun h => by omega)]
    clear hB hc hl
    go_enter Tryz.func58, Tryz.ntmps58
    go_wp2_with fail
    go_ret
    exact ⟨rfl, 0, rfl⟩
  have b1 : decide (place < 0) = false := decide_eq_false h1
  by_cases h2 : (l.length : Int) ≤ place
  · rw [if_neg (fun h => by omega)]
    clear hB hc hl h1
    go_enter Tryz.func58, Tryz.ntmps58
    go_wp2_with fail
    go_ret
    exact ⟨rfl, 0, rfl⟩
  have b2 : decide ((l.length : Int) ≤ place) = false := decide_eq_false h2
  by_cases h3 : dist < 1
  · rw [if_neg (fun h => by omega)]
    clear hB hc hl h1 h2
    go_enter Tryz.func58, Tryz.ntmps58
    go_wp2_with fail
    go_ret
    exact ⟨rfl, 0, rfl⟩
  have b3 : decide (dist < 1) = false := decide_eq_false h3
  by_cases h4 : place < dist
  · rw [if_neg (fun h => by omega)]
    clear hB hc hl h1 h2 h3
    go_enter Tryz.func58, Tryz.ntmps58
    go_wp2_with fail
    go_ret
    exact ⟨rfl, 0, rfl⟩
  have b4 : decide (place < dist) = false := decide_eq_false h4
  by_cases h5 : dict < dist
  · rw [if_neg (fun h => by omega)]
    clear hB hc hl h1 h2 h3 h4
    go_enter Tryz.func58, Tryz.ntmps58
    go_wp2_with fail
    go_ret
    exact ⟨rfl, 0, rfl⟩
  have b5 : decide (dict < dist) = false := decide_eq_false h5
  rw [if_pos (by omega)]
  have hp : (place.toNat : Int) = place := by omega
  have hk : (dist.toNat : Int) = dist := by omega
  have HLK := rlike_any A l c place.toNat dist.toNat (min 273 most) w hB hc hl (by omega) (by omega) (by omega)
  rw [hp, hk] at HLK
  have HLK := Lib.hid HLK
  generalize eqLen l place.toNat (place.toNat - dist.toNat) (lim l place.toNat (min 273 most)) = E at *
  clear hp hk
  clear hB hc hl h1 h2 h3 h4 h5
  go_enter Tryz.func58, Tryz.ntmps58
  go_wp2_with fail
  refine (HCU.out _).mono ?_
  rintro e w1 ⟨rfl, rfl⟩
  go_wp2_with fail
  refine HLK.out.mono ?_
  rintro e w1 ⟨rfl, m, rfl⟩
  go_wp2_with fail
  go_ret
  exact ⟨rfl, _, rfl⟩
end Go.Proofs.YtklkboplkobhgaaGreat
