/- The reference: number, Get. -/
import Derived.Test.YthfmhjpmcapcbaaDoorIxGet
namespace Go.Proofs.YthfmhjpmcapcbaaDoor
open Go.RowKit

set_option maxRecDepth 100000 in
set_option maxHeartbeats 2000000 in
theorem rnumber_any (A : Option Addr) (l : List UInt8) (c k : Nat) (w : World) (hB : Bytes w A l) (hk : k ≤ l.length) (hc : l.length ≤ c) (hm : c ≤ 9223372036854775807) (hl : l.length ≤ 1000000) :
    Calls Tryd.prog 24 #[.slice A l.length c, .int .i64 (k : Nat)] w fun e w' => e = .returned (.tuple #[.int .i64 ((nextR l k).1 : Nat), .int .i64 ((nextR l k).2.1 : Nat), .int .i64 ((nextR l k).2.2 : Nat)]) ∧ w = w' := by
  have HG := Lib.hid (show ∀ A' c', Bytes w A' (l.drop k) → Calls Tryd.prog 32 #[.slice A' (l.length - k) c'] w (Got w (Vl.get (l.drop k))) from fun A' c' h => by
    have := rget_any A' (l.drop k) c' w h (by rw [List.length_drop]; omega)
    rwa [List.length_drop] at this)
  have HB := Lib.hid hB
  have hki : (k : Int) ≤ (l.length : Int) := by omega
  have hci : (l.length : Int) ≤ (c : Int) := by omega
  have hli : (l.length : Int) ≤ 1000000 := by omega
  have HKL := Lib.hid (show l.length ≤ k → l.drop k = [] from fun h => List.drop_eq_nil_of_le h)
  have hdl : (l.drop k).length = l.length - k := List.length_drop
  have HGC := Vl.get_cases (l.drop k)
  have hR : nextR l k = if (Vl.get (l.drop k)).2.2 = 6 then (0, 0, 8) else ((Vl.get (l.drop k)).1, k + (Vl.get (l.drop k)).2.1, (Vl.get (l.drop k)).2.2) := rfl
  rw [hdl] at HGC
  generalize nextR l k = R at *
  generalize Vl.get (l.drop k) = q at *
  obtain ⟨n, m, er⟩ := q
  clear hB hdl
  rcases HGC with ⟨h1, h2, h3⟩ | ⟨h1, h2, h3⟩ | ⟨h1, h2, h3, h4⟩
  · obtain rfl : er = 2 := h1
    obtain rfl : n = 0 := h2
    obtain rfl : m = 0 := h3
    obtain rfl : R = (0, k, 2) := hR
    go_enter Tryd.func24, Tryd.ntmps24
    go_wp2_with fail
    · refine (HG.out A 0 (by rw [HKL.out (by omega)]; exact .nil)).mono ?_
      rintro e w1 ⟨rfl, rfl⟩
      go_wp2_with fail
      go_ret3
      exact ⟨rfl, rfl⟩
    · refine (HG.out _ (c - k) (HB.out.cut k)).mono ?_
      rintro e w1 ⟨rfl, rfl⟩
      go_wp2_with fail
      go_ret3
      exact ⟨rfl, rfl⟩
  · obtain rfl : er = 6 := h1
    obtain rfl : n = 0 := h2
    obtain rfl : m = 0 := h3
    obtain rfl : R = (0, 0, 8) := hR
    go_enter Tryd.func24, Tryd.ntmps24
    go_wp2_with fail
    · refine (HG.out A 0 (by rw [HKL.out (by omega)]; exact .nil)).mono ?_
      rintro e w1 ⟨rfl, rfl⟩
      go_wp2_with fail
      go_ret3
      exact ⟨rfl, rfl⟩
    · refine (HG.out _ (c - k) (HB.out.cut k)).mono ?_
      rintro e w1 ⟨rfl, rfl⟩
      go_wp2_with fail
      go_ret3
      exact ⟨rfl, rfl⟩
  · obtain rfl : er = 0 := h1
    obtain rfl : R = (n, k + m, 0) := hR
    have hn : (n : Int) < 9223372036854775808 := by have : n < _ := h4; omega
    have hn0 : (0 : Int) ≤ (n : Int) := by omega
    have hmm : (m : Int) ≤ 1000000 := by have : m ≤ _ := h2; omega
    have HNB := Lib.hid (And.intro hn (And.intro hn0 hmm))
    clear h2 h3 h4 hn hn0 hmm
    go_enter Tryd.func24, Tryd.ntmps24
    go_wp2_with fail
    · refine (HG.out A 0 (by rw [HKL.out (by omega)]; exact .nil)).mono ?_
      rintro e w1 ⟨rfl, rfl⟩
      obtain ⟨hn, hn0, hmm⟩ := HNB.out
      go_wp2_with fail
      go_ret3
      exact ⟨rfl, rfl⟩
    · refine (HG.out _ (c - k) (HB.out.cut k)).mono ?_
      rintro e w1 ⟨rfl, rfl⟩
      obtain ⟨hn, hn0, hmm⟩ := HNB.out
      go_wp2_with fail
      go_ret3
      exact ⟨rfl, rfl⟩

theorem elemRRec : Elem2 28 32 (.agg #[.int .i64 0, .int .i64 0]) 16 := ⟨Tryd.underlying28, by kernel_rfl, rfl⟩
def RGetDone (w : World) (r : List (Int × Int) × Nat × Nat) (e : Ending) (w' : World) : Prop :=
  ∃ v, e = .returned (.tuple #[v, .int .i64 (r.2.1 : Nat), .int .i64 (r.2.2 : Nat)]) ∧ OwnR 32 w.heap.size w' v r.1 ∧ Below w.heap.size w w'

set_option maxRecDepth 100000 in
set_option maxHeartbeats 2000000 in
theorem rixget_any (A : Option Addr) (l : List UInt8) (c : Nat) (w : World) (hB : Bytes w A l) (hc : l.length ≤ c) (hm : c ≤ 9223372036854775807) (hl : l.length ≤ 1000000) :
    Calls Tryd.prog 12 #[.slice A l.length c] w (RGetDone w (getR l)) := by
  have HB := Lib.hid hB
  by_cases h0 : l.length = 0
  · have HF : Hid (getR l = ([], 0, 2)) := Lib.hid (by rw [getR, if_pos h0])
    have h0i : (l.length : Int) = 0 := by omega
    rw [h0]
    clear hB
    go_enter Tryd.func12, Tryd.ntmps12
    go_wp2_with fail
    go_ret3
    exact ⟨_, by rw [HF.out]; rfl, by rw [HF.out]; exact OwnR.nil _ _ _, Below.refl _ _⟩
  have h0i : ¬ (l.length : Int) = 0 := by omega
  obtain ⟨b, off, rfl, hbl, hcell⟩ := hB.addr (by omega)
  have k0 : w.cell? ⟨b, off + 0, none⟩ = some (B8 (l[0]'(by omega))) := hcell 0 (by omega)
  have hgd : l[0]'(by omega) = l.getD 0 0 := by simp [List.getD, show 0 < l.length by omega]
  rw [hgd, Nat.add_zero] at k0
  have hlp : (0 : Int) < (l.length : Int) := by omega
  clear hcell hgd hB
  by_cases hx : l.getD 0 0 = 0
  case neg =>
    have HF : Hid (getR l = ([], 0, 8)) := Lib.hid (by rw [getR, if_neg h0, if_pos hx])
    have hx0 : ¬ ((l.getD 0 0).toNat : Int) = 0 := fun h => hx (UInt8.toNat_inj.1 (by simpa using h))
    have k1 : w.cell? ⟨b, off, none⟩ = some (.int .u8 ((l.getD 0 0).toNat : Nat)) := k0
    generalize (l.getD 0 0).toNat = x at *
    have hx1 : (0 : Int) < (x : Int) := by omega
    clear k0 hx
    go_enter Tryd.func12, Tryd.ntmps12
    go_wp2_with fail
    go_ret3
    exact ⟨_, by rw [HF.out]; rfl, by rw [HF.out]; exact OwnR.nil _ _ _, Below.refl _ _⟩
  rw [hx] at k0
  have k1 : w.cell? ⟨b, off, none⟩ = some (.int .u8 0) := k0
  clear k0
  have HN := Lib.hid (fun (wr : World) (q : Nat) (h : Below w.heap.size w wr) (hq : q ≤ l.length) => rnumber_any (some ⟨b, off, none⟩) l c q wr (HB.out.below h) hq hc hm hl)
  have H0 := Lib.hid (HN.out w 1 (Below.refl _ _) (by omega))
  have HC0 := Lib.hid (nextR_cases l 1 (by omega))
  have HGR := Lib.hid (show getR l = if (recsR l 1).2.2 ≠ 0 then ([], 0, (recsR l 1).2.2) else if (endR l (recsR l 1).2.1).2 ≠ 0 then ([], 0, (endR l (recsR l 1).2.1).2) else ((recsR l 1).1, (endR l (recsR l 1).2.1).1, 0) from by rw [getR, if_neg h0, if_neg (fun h => h hx)])
  have HRS := Lib.hid (show recsR l 1 = if (nextR l 1).2.2 ≠ 0 then ([], 0, (nextR l 1).2.2) else recsGo l (nextR l 1).1 (nextR l 1).2.1 [] from rfl)
  have HBAD : Hid (∀ er, er ≠ 0 → (recsR l 1) = ([], 0, er) → getR l = ([], 0, er)) := Lib.hid (fun er h0 h => by rw [HGR.out, h]; exact if_pos h0)
  generalize recsR l 1 = RR at *
  generalize nextR l 1 = r at *
  obtain ⟨n, p, er⟩ := r
  clear hx h0
  have HCM := Lib.hid (And.intro hc (And.intro hm hl))
  clear hc hm hl
  go_enter Tryd.func12, Tryd.ntmps12
  go_wp2_with fail
  refine H0.out.mono ?_
  rintro e _ ⟨rfl, rfl⟩
  rcases HC0.out with ⟨h1, h2, h3, h4⟩ | ⟨h1, h2⟩ | ⟨h1, h2⟩
  case inr.inl =>
    obtain rfl : er = 2 := h1
    have HF : Hid (getR l = ([], 0, 2)) := Lib.hid (HBAD.out 2 (by decide) HRS.out)
    go_wp2_with fail
    go_ret3
    exact ⟨_, by rw [HF.out]; rfl, by rw [HF.out]; exact OwnR.nil _ _ _, Below.refl _ _⟩
  case inr.inr =>
    obtain rfl : er = 8 := h1
    have HF : Hid (getR l = ([], 0, 8)) := Lib.hid (HBAD.out 8 (by decide) HRS.out)
    go_wp2_with fail
    go_ret3
    exact ⟨_, by rw [HF.out]; rfl, by rw [HF.out]; exact OwnR.nil _ _ _, Below.refl _ _⟩
  obtain rfl : er = 0 := h1
  have hp : p ≤ l.length := h3
  have HN63 := Lib.hid (show (n : Int) ≤ 9223372036854775807 by have : n < 9223372036854775808 := h4; omega)
  have HRR : Hid (RR = recsGo l n p []) := Lib.hid HRS.out
  clear h2 h3 h4
  go_wp2_with fail
  go_loopw [6, 8, 9] (fun at' lv i wr => ∃ (j q : Nat) (rs : List (Int × Int)), j ≤ n ∧ i = .int .i64 (j : Nat) ∧ at' = .int .i64 (q : Nat) ∧ Hid (recsGo l n p [] = recsGo l (n - j) q rs) ∧ q ≤ l.length ∧ 2 * rs.length ≤ q ∧ OwnR 32 w.heap.size wr lv rs ∧ Hid (Below w.heap.size w wr)) (fun _ _ i _ => n - (intOf i).toNat)
  case atStart => exact ⟨0, p, [], by omega, rfl, rfl, rfl, hp, by simp, OwnR.nil _ _ _, Lib.hid (Below.refl _ _)⟩
  case round =>
    obtain ⟨j, q, rs, hj, rfl, rfl, hgo, hq, hrs, hown, hbr⟩ := hrel
    by_cases hjn : j < n
    · have hjn2 : (j : Int) < (n : Int) := by omega
      have HG := Lib.hid (HN.out wr q hbr.out hq)
      have hfx : n - j = (n - (j + 1)) + 1 := by omega
      rw [hfx] at hgo
      have HE := Lib.hid (hgo.out.trans (recsGo_more l (n - (j + 1)) q rs))
      have hC1 := nextR_cases l q hq
      clear hfx hgo
      generalize nextR l q = r1 at *
      obtain ⟨n1, p1, e1⟩ := r1
      go_wp2_with fail
      refine HG.out.mono ?_
      rintro e _ ⟨rfl, rfl⟩
      rcases hC1 with ⟨h1, h2, h3, h4⟩ | ⟨h1, h2⟩ | ⟨h1, h2⟩
      · obtain rfl : e1 = 0 := h1
        have hp1 : p1 ≤ l.length := h3
        have hqp : q < p1 := h2
        have hn1 : n1 < 9223372036854775808 := h4
        have HG2 := Lib.hid (HN.out wr p1 hbr.out hp1)
        have HE2 : Hid (recsGo l n p [] = if fitsU (n1 : Nat) = false then ([], 0, 8) else if (nextR l p1).2.2 ≠ 0 then ([], 0, (nextR l p1).2.2) else recsGo l (n - (j + 1)) (nextR l p1).2.1 (rs ++ [((n1 : Int), (((nextR l p1).1 : Nat) : Int))])) := Lib.hid HE.out
        have hC2 := nextR_cases l p1 hp1
        generalize nextR l p1 = r2 at *
        obtain ⟨n2, p2, e2⟩ := r2
        clear h2 h3 h4 HE HG
        by_cases h5 : (5 : Int) ≤ (n1 : Int)
        case neg =>
          have hfu : fitsU (n1 : Nat) = false := by unfold fitsU; simp; omega
          have HF : Hid (getR l = ([], 0, 8)) := Lib.hid (HBAD.out 8 (by decide) (by rw [HRR.out, HE2.out, hfu]; rfl))
          have h5n : (n1 : Int) < 5 := by omega
          clear hC2 hfu
          go_wp2_with fail
          go_ret3
          exact ⟨_, by rw [HF.out]; rfl, by rw [HF.out]; exact OwnR.nil _ _ _, hbr.out⟩
        by_cases hmx : (n1 : Int) ≤ 9223372036854775804
        case neg =>
          have hfu : fitsU (n1 : Nat) = false := by unfold fitsU; simp; omega
          have HF : Hid (getR l = ([], 0, 8)) := Lib.hid (HBAD.out 8 (by decide) (by rw [HRR.out, HE2.out, hfu]; rfl))
          have h5n : (9223372036854775804 : Int) < (n1 : Int) := by omega
          clear hC2 hfu
          go_wp2_with fail
          go_ret3
          exact ⟨_, by rw [HF.out]; rfl, by rw [HF.out]; exact OwnR.nil _ _ _, hbr.out⟩
        have hfu : fitsU (n1 : Nat) = true := by unfold fitsU; simp; omega
        rw [hfu] at HE2
        clear hfu
        go_wp2_with fail
        refine HG2.out.mono ?_
        rintro e _ ⟨rfl, rfl⟩
        rcases hC2 with ⟨h1, h2, h3, h4⟩ | ⟨h1, h2⟩ | ⟨h1, h2⟩
        · obtain rfl : e2 = 0 := h1
          have hp2 : p2 ≤ l.length := h3
          have hqp2 : p1 < p2 := h2
          have HE3 : Hid (recsGo l n p [] = recsGo l (n - (j + 1)) p2 (rs ++ [((n1 : Int), (n2 : Int))])) := Lib.hid (by rw [HE2.out, if_neg (fun h => by cases h), if_neg (fun h => h rfl)])
          have hz3 : w.heap.size ≤ wr.heap.size := hbr.out.size
          have hownA := hown.alloc (.cells #[.int .i64 (n1 : Nat), .int .i64 (n2 : Nat)] 32)
          have hl0 : (wr.alloc (.cells #[.int .i64 (n1 : Nat), .int .i64 (n2 : Nat)] 32)).cell? ⟨wr.heap.size, 0, none⟩ = some (.int .i64 ((n1 : Int), (n2 : Int)).1) := by simp
          have hl1 : (wr.alloc (.cells #[.int .i64 (n1 : Nat), .int .i64 (n2 : Nat)] 32)).cell? ⟨wr.heap.size, 1, none⟩ = some (.int .i64 ((n1 : Int), (n2 : Int)).2) := by simp
          have hsA : w.heap.size ≤ (wr.alloc (.cells #[.int .i64 (n1 : Nat), .int .i64 (n2 : Nat)] 32)).heap.size := by simp; omega
          have hbA := Lib.hid (hbr.out.alloc hz3 (.cells #[.int .i64 (n1 : Nat), .int .i64 (n2 : Nat)] 32))
          have HL := Lib.hid (And.intro hl0 hl1)
          clear h2 h3 h4 HE2 hl0 hl1 hown h5 hmx hn1
          have hj63 : (j : Int) + 1 ≤ 9223372036854775807 := by have := HN63.out; omega
          have hj0 : (0 : Int) ≤ (j : Int) := by omega
          have hll := HCM.out.2.2
          go_wp2_with (refine wpList_append_rec elemRRec rfl _ _ rfl w.heap.size _ u8 rs rfl hownA wr.heap.size 1 ((n1 : Int), (n2 : Int)) rfl HL.out.1 HL.out.2 (by omega) (by omega) hsA ?_; intro v' w4 hownB hgB)
          have hbB : Below w.heap.size w w4 := below_grown hbA.out hgB hsA (fun g e => (hownA.lt g e).1)
          exact ⟨⟨j + 1, p2, rs ++ [((n1 : Int), (n2 : Int))], by omega, by go_num, rfl, HE3, hp2, by simp; omega, hownB, Lib.hid hbB⟩, by simp [intOf]; omega⟩
        · obtain rfl : e2 = 2 := h1
          have HF : Hid (getR l = ([], 0, 2)) := Lib.hid (HBAD.out 2 (by decide) (by rw [HRR.out, HE2.out]; rfl))
          go_wp2_with fail
          go_ret3
          exact ⟨_, by rw [HF.out]; rfl, by rw [HF.out]; exact OwnR.nil _ _ _, hbr.out⟩
        · obtain rfl : e2 = 8 := h1
          have HF : Hid (getR l = ([], 0, 8)) := Lib.hid (HBAD.out 8 (by decide) (by rw [HRR.out, HE2.out]; rfl))
          go_wp2_with fail
          go_ret3
          exact ⟨_, by rw [HF.out]; rfl, by rw [HF.out]; exact OwnR.nil _ _ _, hbr.out⟩
      · obtain rfl : e1 = 2 := h1
        have HF : Hid (getR l = ([], 0, 2)) := Lib.hid (HBAD.out 2 (by decide) (by rw [HRR.out, HE.out]; rfl))
        go_wp2_with fail
        go_ret3
        exact ⟨_, by rw [HF.out]; rfl, by rw [HF.out]; exact OwnR.nil _ _ _, hbr.out⟩
      · obtain rfl : e1 = 8 := h1
        have HF : Hid (getR l = ([], 0, 8)) := Lib.hid (HBAD.out 8 (by decide) (by rw [HRR.out, HE.out]; rfl))
        go_wp2_with fail
        go_ret3
        exact ⟨_, by rw [HF.out]; rfl, by rw [HF.out]; exact OwnR.nil _ _ _, hbr.out⟩
    · obtain rfl : j = n := by omega
      have hRS : RR = (rs, q, 0) := by rw [HRR.out, hgo.out, Nat.sub_self]; rfl
      have HE1 : Hid (getR l = if (endR l q).2 ≠ 0 then ([], 0, (endR l q).2) else (rs, (endR l q).1, 0)) := Lib.hid (by rw [HGR.out, hRS]; rfl)
      have HE2 := Lib.hid (show endR l q = if (zr l (zerosN q) q).2 ≠ 0 then (0, (zr l (zerosN q) q).2) else crcR l (zr l (zerosN q) q).1 from rfl)
      have hz4 : zerosN q < 4 := by unfold zerosN; omega
      have hzq : (q + zerosN q) % 4 = 0 := by unfold zerosN; omega
      generalize zerosN q = z at *
      have hll := HCM.out.2.2
      have hz3 : w.heap.size ≤ wr.heap.size := hbr.out.size
      clear hgo hRS hjn HRR HN63 hrs hp
      clear hj
      go_wp2_with fail
      go_loopw [6] (fun at' w2 => ∃ p : Nat, q ≤ p ∧ p ≤ q + z ∧ at' = .int .i64 (p : Nat) ∧ Hid (zr l z q = zr l (q + z - p) p) ∧ p ≤ l.length ∧ wr = w2) (fun at' _ => q + z - (intOf at').toNat)
      case atStart => exact ⟨q, by omega, by omega, rfl, Lib.hid (by rw [Nat.add_sub_cancel_left]), hq, rfl⟩
      case round =>
        obtain ⟨p, hqp, hpz, rfl, hgo, hpl, rfl⟩ := hrel
        by_cases hpz2 : p < q + z
        · have hm4 : ¬ (p : Int) % 4 = 0 := by omega
          have hfx : q + z - p = (q + z - (p + 1)) + 1 := by omega
          rw [hfx] at hgo
          by_cases hpe : l.length ≤ p
          · have HF : Hid (getR l = ([], 0, 2)) := Lib.hid (by
              have e : zr l z q = (0, 2) := by rw [hgo.out, zr, if_pos hpe]
              rw [HE1.out, HE2.out, e]; rfl)
            have hpe2 : (l.length : Int) ≤ (p : Int) := by omega
            clear hgo hfx
            go_wp2_with fail
            go_ret3
            exact ⟨_, by rw [HF.out]; rfl, by rw [HF.out]; exact OwnR.nil _ _ _, hbr.out⟩
          · have hlt : p < l.length := by omega
            obtain ⟨b', off', hbo, hb', hcell⟩ := (HB.out.below hbr.out).addr (by omega)
            obtain ⟨rfl, rfl⟩ : b = b' ∧ off = off' := by injection hbo with h; injection h with h1 h2; exact ⟨h1, h2⟩
            have hct := hcell p hlt
            have hgd : l[p] = l.getD p 0 := by simp [List.getD, hlt]
            rw [hgd] at hct
            have hpl : (p : Int) < (l.length : Int) := by omega
            have hne : ¬ (l.length : Int) ≤ (p : Int) := by omega
            by_cases h0 : l.getD p 0 = 0
            · have HN : Hid (zr l z q = zr l (q + z - (p + 1)) (p + 1)) := Lib.hid (by
                rw [hgo.out, zr, if_neg hpe, if_neg (by rw [h0]; simp)])
              rw [h0] at hct
              have hct2 : wr.cell? ⟨b, off + p, none⟩ = some (.int .u8 0) := hct
              clear hgo hfx hgd hcell h0 hct
              go_wp2_with fail
              exact ⟨⟨p + 1, by omega, by omega, by go_num, HN, by omega, trivial⟩, by simp [intOf]; omega⟩
            · have HF : Hid (getR l = ([], 0, 8)) := Lib.hid (by
                have e : zr l z q = (0, 8) := by rw [hgo.out, zr, if_neg hpe, if_pos h0]
                rw [HE1.out, HE2.out, e]; rfl)
              have hx0 : ¬ ((l.getD p 0).toNat : Int) = 0 := fun h => h0 (UInt8.toNat_inj.1 (by simpa using h))
              have hct2 : wr.cell? ⟨b, off + p, none⟩ = some (.int .u8 ((l.getD p 0).toNat : Nat)) := hct
              generalize (l.getD p 0).toNat = x at *
              have hx1 : (0 : Int) < (x : Int) := by omega
              clear hgo hfx hgd hcell h0 hct
              go_wp2_with fail
              go_ret3
              exact ⟨_, by rw [HF.out]; rfl, by rw [HF.out]; exact OwnR.nil _ _ _, hbr.out⟩
        · have hpe : p = q + z := by omega
          have hm4 : (p : Int) % 4 = 0 := by omega
          have HE3 : Hid (getR l = if (crcR l p).2 ≠ 0 then ([], 0, (crcR l p).2) else (rs, (crcR l p).1, 0)) := Lib.hid (by
            have e : zr l z q = (p, 0) := by rw [hgo.out, show q + z - p = 0 by omega]; rfl
            rw [HE1.out, HE2.out, e]; rfl)
          clear hgo hpe hpz2 hzq hz4 hpz
          have hpli : (p : Int) ≤ (l.length : Int) := by omega
          have hlli : (l.length : Int) ≤ 1000000 := by omega
          by_cases h4 : l.length < p + 4
          · have HF : Hid (getR l = ([], 0, 2)) := Lib.hid (by rw [HE3.out, crcR, if_pos h4]; rfl)
            have h4i : (l.length : Int) < (p : Int) + 4 := by omega
            clear h4
            go_wp2_with fail
            go_ret3
            exact ⟨_, by rw [HF.out]; rfl, by rw [HF.out]; exact OwnR.nil _ _ _, hbr.out⟩
          have hp4 : p + 4 ≤ l.length := by omega
          have h4i : ¬ (l.length : Int) < (p : Int) + 4 := by omega
          have HR4 := Lib.hid (show crcR l p = if (part l p 4 == sum1 (l.take p)) = false then (0, 8) else (p + 4, 0) from by rw [crcR, if_neg h4])
          have HS1 := Lib.hid (sum1_length (l.take p))
          have hBB := Lib.hid (HB.out.below hbr.out)
          have HS := Lib.hid (show ∀ w', Bytes w' (some ⟨b, off, none⟩) l → Calls Tryd.prog 23 #[.int .i64 1, .slice (some ⟨b, off, none⟩) p c] w' (OwnDone w' (sum1 (l.take p))) from fun w' h => by
            have := rchk1_any (some ⟨b, off, none⟩) (l.take p) c w' (h.take p) (by rw [List.length_take]; omega)
            rwa [show (l.take p).length = p by rw [List.length_take]; omega] at this)
          have HBP : Hid (Bytes wr (some ⟨b, off + p, none⟩) (part l p 4)) := Lib.hid ((Bytes.drop p hBB.out).take 4)
          have HP4 := Lib.hid (part_length l p 4 hp4)
          obtain ⟨t, ht⟩ : ∃ t : Nat, p + 4 = t := ⟨_, rfl⟩
          have HW : Hid (IntKind.i64.wrap ((p : Int) + 4) = (t : Int)) := Lib.hid (by rw [IntWalk.i64_in _ (by omega)]; omega)
          have HT4 : Hid (t - p = 4) := Lib.hid (by omega)
          have hcc := HCM.out.1
          have HC := Lib.hid (show (p : Int) + 4 ≤ (c : Int) ∧ ¬ c = p ∧ (p : Int) + 4 ≤ (l.length : Int) ∧ (p : Int) ≤ (l.length : Int) ∧ (p : Int) ≤ (c : Int) ∧ (0 : Int) ≤ (t : Int) ∧ (t : Int) ≤ (c : Int) ∧ p ≤ t by omega)
          clear ht h4 hcc
          have hdr : Below wr.heap.size wr wr.drew := below_drew wr
          cases hv : (part l p 4 == sum1 (l.take p)) with
          | false =>
            have HF : Hid (getR l = ([], 0, 8)) := Lib.hid (by rw [HE3.out, HR4.out, if_pos hv]; rfl)
            have hne : ¬ part l p 4 = sum1 (l.take p) := fun h => by rw [h] at hv; simp at hv
            generalize part l p 4 = P2 at *
            generalize sum1 (l.take p) = SM at *
            go_wp2_with fail
            refine wp_region_held_drew (S := fun w' => Below wr.heap.size wr w') (by kernel_rfl) hdr (fun hS => ?_)
            refine wpAnyH_take (i := 0) (oi := { dst := some 89, op := Op.move (Operand.tmp 0), type := 23, pos := "ref.go:79", after := #[], guard := none }) (v := ?vra1) rfl (by kernel_rfl) (by kernel_rfl) (by kernel_rfl) (fun _ _ _ h => h) (Or.inl ⟨by rfl, ?yra1⟩) hS ?_
            case yra1 =>
              intro w hSw
              go_simp; all_goals (with_reducible rfl)
            simp only [Act.put, List.setIfInBounds_toArray, List.set_cons_zero, List.set_cons_succ]
            refine wpAnyH_take (i := 1) (oi := { dst := some 90, op := Op.move (Operand.tmp 6), type := 3, pos := "ref.go:79", after := #[], guard := none }) (v := ?vra2) rfl (by kernel_rfl) (by kernel_rfl) (by kernel_rfl) (fun _ _ _ h => h) (Or.inl ⟨by rfl, ?yra2⟩) hS ?_
            case yra2 =>
              intro w hSw
              go_simp; all_goals (with_reducible rfl)
            simp only [Act.put, List.setIfInBounds_toArray, List.set_cons_zero, List.set_cons_succ]
            refine wpAnyH_take (i := 2) (oi := { dst := some 91, op := Op.move (Operand.tmp 6), type := 3, pos := "ref.go:79", after := #[], guard := none }) (v := ?vra3) rfl (by kernel_rfl) (by kernel_rfl) (by kernel_rfl) (fun _ _ _ h => h) (Or.inl ⟨by rfl, ?yra3⟩) hS ?_
            case yra3 =>
              intro w hSw
              go_simp; all_goals (with_reducible rfl)
            simp only [Act.put, List.setIfInBounds_toArray, List.set_cons_zero, List.set_cons_succ]
            refine wpAnyH_take (i := 3) (oi := { dst := some 92, op := Op.binOp BinOp.add 3 (Operand.tmp 91) (Operand.const (Value.int IntKind.i64 4)) 3, type := 3, pos := "ref.go:79", after := #[{ on := 2, ground := Ground.data }], guard := none }) (v := ?vra4) rfl (by kernel_rfl) (by kernel_rfl) (by kernel_rfl) (fun _ _ _ h => h) (Or.inl ⟨by rfl, ?yra4⟩) hS ?_
            case yra4 =>
              intro w hSw
              go_simp; all_goals (with_reducible rfl)
            simp only [Act.put, List.setIfInBounds_toArray, List.set_cons_zero, List.set_cons_succ]
            rw [HW.out]
            refine wpAnyH_take (i := 4) (oi := { dst := some 93, op := Op.slice 23 (Operand.tmp 89) (some (Operand.tmp 90)) (some (Operand.tmp 92)) none, type := 23, pos := "ref.go:79", after := #[{ on := 0, ground := Ground.data }, { on := 1, ground := Ground.data }, { on := 3, ground := Ground.data }], guard := none }) (v := ?vra5) rfl (by kernel_rfl) (by kernel_rfl) (by kernel_rfl) (fun _ _ _ h => h) (Or.inl ⟨by rfl, ?yra5⟩) hS ?_
            case yra5 =>
              intro w hSw
              obtain ⟨hc4, hca, hl4, hla, hac, ht0, htc, hpt⟩ := HC.out
              go_simp; all_goals (with_reducible rfl)
            simp only [Act.put, List.setIfInBounds_toArray, List.set_cons_zero, List.set_cons_succ]
            rw [HT4.out]
            refine wpAnyH_take (i := 5) (oi := { dst := some 94, op := Op.convert 23 9 (Operand.tmp 93), type := 9, pos := "ref.go:79", after := #[{ on := 4, ground := Ground.data }], guard := none }) (v := ?vra6) rfl (by kernel_rfl) (by kernel_rfl) (by kernel_rfl) (fun _ _ _ h => h) (Or.inl ⟨by rfl, ?yra6⟩) hS ?_
            case yra6 =>
              intro w hSw
              have k := run_str (HBP.out.below hSw) (c - p)
              rw [HP4.out] at k
              go_simp; all_goals (with_reducible rfl)
            simp only [Act.put, List.setIfInBounds_toArray, List.set_cons_zero, List.set_cons_succ]
            refine wpAnyH_take (i := 6) (oi := { dst := some 95, op := Op.move (Operand.tmp 0), type := 23, pos := "ref.go:79", after := #[], guard := none }) (v := ?vra7) rfl (by kernel_rfl) (by kernel_rfl) (by kernel_rfl) (fun _ _ _ h => h) (Or.inl ⟨by rfl, ?yra7⟩) hS ?_
            case yra7 =>
              intro w hSw
              go_simp; all_goals (with_reducible rfl)
            simp only [Act.put, List.setIfInBounds_toArray, List.set_cons_zero, List.set_cons_succ]
            refine wpAnyH_take (i := 7) (oi := { dst := some 96, op := Op.move (Operand.tmp 6), type := 3, pos := "ref.go:79", after := #[], guard := none }) (v := ?vra8) rfl (by kernel_rfl) (by kernel_rfl) (by kernel_rfl) (fun _ _ _ h => h) (Or.inl ⟨by rfl, ?yra8⟩) hS ?_
            case yra8 =>
              intro w hSw
              go_simp; all_goals (with_reducible rfl)
            simp only [Act.put, List.setIfInBounds_toArray, List.set_cons_zero, List.set_cons_succ]
            refine wpAnyH_take (i := 8) (oi := { dst := some 97, op := Op.slice 23 (Operand.tmp 95) none (some (Operand.tmp 96)) none, type := 23, pos := "ref.go:79", after := #[{ on := 6, ground := Ground.data }, { on := 7, ground := Ground.data }], guard := none }) (v := ?vra9) rfl (by kernel_rfl) (by kernel_rfl) (by kernel_rfl) (fun _ _ _ h => h) (Or.inl ⟨by rfl, ?yra9⟩) hS ?_
            case yra9 =>
              intro w hSw
              obtain ⟨hc4, hca, hl4, hla, hac, ht0, htc, hpt⟩ := HC.out
              go_simp; all_goals (with_reducible rfl)
            simp only [Act.put, List.setIfInBounds_toArray, List.set_cons_zero, List.set_cons_succ]
            refine wpAnyH_ready (rs := [9]) (by kernel_rfl) (by simp) ?_
            refine (AllReadyH.cons (o := { dst := some 98, op := Op.call { callee := Callee.value (Operand.func 23), args := #[Operand.const (Value.int IntKind.i64 1), Operand.tmp 97], argTypes := #[3, 23] }, type := 23, pos := "ref.go:79", after := #[{ on := 8, ground := Ground.data }], guard := none }) rfl (fun K hK => ?_) AllReadyH.nil)
            go_simp
            refine (HS.out wr.drew (hBB.out.below hdr)).mono ?_
            rintro e w5 h5
            obtain ⟨A5, c5, rfl, hc5, hm5, hB5, hb5⟩ := h5.bytes
            have g5 : Below wr.heap.size wr w5 := hdr.trans (hb5.mono hdr.size)
            have k5 := run_str hB5 c5
            rw [HS1.out] at k5
            clear hb5 hB5 h5
            rw [HS1.out]
            go_wp2_with fail
            refine hK.out _ _ g5 (fun _ => ?_)
            clear hK K
            refine wpAnyH_ready (rs := [10]) (by kernel_rfl) (by simp) ?_
            refine (AllReadyH.cons (o := { dst := some 99, op := Op.convert 23 9 (Operand.tmp 98), type := 9, pos := "ref.go:79", after := #[{ on := 9, ground := Ground.data }], guard := none }) rfl (fun K hK => ?_) AllReadyH.nil)
            go_simp
            refine hK.out _ _ g5 (fun _ => ?_)
            clear hK K
            refine wpAnyH_ready (rs := [11]) (by kernel_rfl) (by simp) ?_
            refine (AllReadyH.cons (o := { dst := some 100, op := Op.binOp BinOp.neq 9 (Operand.tmp 94) (Operand.tmp 99) 9, type := 4, pos := "ref.go:79", after := #[{ on := 5, ground := Ground.data }, { on := 10, ground := Ground.data }], guard := none }) rfl (fun K hK => ?_) AllReadyH.nil)
            go_simp
            refine hK.out _ _ g5 (fun _ => ?_)
            clear hK K
            refine wpAnyH_done (by kernel_rfl) ?_ _
            go_wp2_with fail
            go_ret3
            exact ⟨_, by rw [HF.out]; rfl, by rw [HF.out]; exact OwnR.nil _ _ _, hbr.out.trans (g5.mono hz3)⟩
          | true =>
            have HF : Hid (getR l = (rs, p + 4, 0)) := Lib.hid (by
              have e : crcR l p = (p + 4, 0) := by rw [HR4.out, if_neg (by rw [hv]; simp)]
              rw [HE3.out, e]; rfl)
            have hne : sum1 (l.take p) = part l p 4 := by have : part l p 4 = sum1 (l.take p) := by simpa using hv
                                                          exact this.symm
            rw [hne] at HS HS1
            clear hv hne HR4
            generalize part l p 4 = P2 at *
            have hnb : (P2 == P2) = true := by simp
            go_wp2_with fail
            refine wp_region_held_drew (S := fun w' => Below wr.heap.size wr w') (by kernel_rfl) hdr (fun hS => ?_)
            refine wpAnyH_take (i := 0) (oi := { dst := some 89, op := Op.move (Operand.tmp 0), type := 23, pos := "ref.go:79", after := #[], guard := none }) (v := ?vrb10) rfl (by kernel_rfl) (by kernel_rfl) (by kernel_rfl) (fun _ _ _ h => h) (Or.inl ⟨by rfl, ?yrb10⟩) hS ?_
            case yrb10 =>
              intro w hSw
              go_simp; all_goals (with_reducible rfl)
            simp only [Act.put, List.setIfInBounds_toArray, List.set_cons_zero, List.set_cons_succ]
            refine wpAnyH_take (i := 1) (oi := { dst := some 90, op := Op.move (Operand.tmp 6), type := 3, pos := "ref.go:79", after := #[], guard := none }) (v := ?vrb11) rfl (by kernel_rfl) (by kernel_rfl) (by kernel_rfl) (fun _ _ _ h => h) (Or.inl ⟨by rfl, ?yrb11⟩) hS ?_
            case yrb11 =>
              intro w hSw
              go_simp; all_goals (with_reducible rfl)
            simp only [Act.put, List.setIfInBounds_toArray, List.set_cons_zero, List.set_cons_succ]
            refine wpAnyH_take (i := 2) (oi := { dst := some 91, op := Op.move (Operand.tmp 6), type := 3, pos := "ref.go:79", after := #[], guard := none }) (v := ?vrb12) rfl (by kernel_rfl) (by kernel_rfl) (by kernel_rfl) (fun _ _ _ h => h) (Or.inl ⟨by rfl, ?yrb12⟩) hS ?_
            case yrb12 =>
              intro w hSw
              go_simp; all_goals (with_reducible rfl)
            simp only [Act.put, List.setIfInBounds_toArray, List.set_cons_zero, List.set_cons_succ]
            refine wpAnyH_take (i := 3) (oi := { dst := some 92, op := Op.binOp BinOp.add 3 (Operand.tmp 91) (Operand.const (Value.int IntKind.i64 4)) 3, type := 3, pos := "ref.go:79", after := #[{ on := 2, ground := Ground.data }], guard := none }) (v := ?vrb13) rfl (by kernel_rfl) (by kernel_rfl) (by kernel_rfl) (fun _ _ _ h => h) (Or.inl ⟨by rfl, ?yrb13⟩) hS ?_
            case yrb13 =>
              intro w hSw
              go_simp; all_goals (with_reducible rfl)
            simp only [Act.put, List.setIfInBounds_toArray, List.set_cons_zero, List.set_cons_succ]
            rw [HW.out]
            refine wpAnyH_take (i := 4) (oi := { dst := some 93, op := Op.slice 23 (Operand.tmp 89) (some (Operand.tmp 90)) (some (Operand.tmp 92)) none, type := 23, pos := "ref.go:79", after := #[{ on := 0, ground := Ground.data }, { on := 1, ground := Ground.data }, { on := 3, ground := Ground.data }], guard := none }) (v := ?vrb14) rfl (by kernel_rfl) (by kernel_rfl) (by kernel_rfl) (fun _ _ _ h => h) (Or.inl ⟨by rfl, ?yrb14⟩) hS ?_
            case yrb14 =>
              intro w hSw
              obtain ⟨hc4, hca, hl4, hla, hac, ht0, htc, hpt⟩ := HC.out
              go_simp; all_goals (with_reducible rfl)
            simp only [Act.put, List.setIfInBounds_toArray, List.set_cons_zero, List.set_cons_succ]
            rw [HT4.out]
            refine wpAnyH_take (i := 5) (oi := { dst := some 94, op := Op.convert 23 9 (Operand.tmp 93), type := 9, pos := "ref.go:79", after := #[{ on := 4, ground := Ground.data }], guard := none }) (v := ?vrb15) rfl (by kernel_rfl) (by kernel_rfl) (by kernel_rfl) (fun _ _ _ h => h) (Or.inl ⟨by rfl, ?yrb15⟩) hS ?_
            case yrb15 =>
              intro w hSw
              have k := run_str (HBP.out.below hSw) (c - p)
              rw [HP4.out] at k
              go_simp; all_goals (with_reducible rfl)
            simp only [Act.put, List.setIfInBounds_toArray, List.set_cons_zero, List.set_cons_succ]
            refine wpAnyH_take (i := 6) (oi := { dst := some 95, op := Op.move (Operand.tmp 0), type := 23, pos := "ref.go:79", after := #[], guard := none }) (v := ?vrb16) rfl (by kernel_rfl) (by kernel_rfl) (by kernel_rfl) (fun _ _ _ h => h) (Or.inl ⟨by rfl, ?yrb16⟩) hS ?_
            case yrb16 =>
              intro w hSw
              go_simp; all_goals (with_reducible rfl)
            simp only [Act.put, List.setIfInBounds_toArray, List.set_cons_zero, List.set_cons_succ]
            refine wpAnyH_take (i := 7) (oi := { dst := some 96, op := Op.move (Operand.tmp 6), type := 3, pos := "ref.go:79", after := #[], guard := none }) (v := ?vrb17) rfl (by kernel_rfl) (by kernel_rfl) (by kernel_rfl) (fun _ _ _ h => h) (Or.inl ⟨by rfl, ?yrb17⟩) hS ?_
            case yrb17 =>
              intro w hSw
              go_simp; all_goals (with_reducible rfl)
            simp only [Act.put, List.setIfInBounds_toArray, List.set_cons_zero, List.set_cons_succ]
            refine wpAnyH_take (i := 8) (oi := { dst := some 97, op := Op.slice 23 (Operand.tmp 95) none (some (Operand.tmp 96)) none, type := 23, pos := "ref.go:79", after := #[{ on := 6, ground := Ground.data }, { on := 7, ground := Ground.data }], guard := none }) (v := ?vrb18) rfl (by kernel_rfl) (by kernel_rfl) (by kernel_rfl) (fun _ _ _ h => h) (Or.inl ⟨by rfl, ?yrb18⟩) hS ?_
            case yrb18 =>
              intro w hSw
              obtain ⟨hc4, hca, hl4, hla, hac, ht0, htc, hpt⟩ := HC.out
              go_simp; all_goals (with_reducible rfl)
            simp only [Act.put, List.setIfInBounds_toArray, List.set_cons_zero, List.set_cons_succ]
            refine wpAnyH_ready (rs := [9]) (by kernel_rfl) (by simp) ?_
            refine (AllReadyH.cons (o := { dst := some 98, op := Op.call { callee := Callee.value (Operand.func 23), args := #[Operand.const (Value.int IntKind.i64 1), Operand.tmp 97], argTypes := #[3, 23] }, type := 23, pos := "ref.go:79", after := #[{ on := 8, ground := Ground.data }], guard := none }) rfl (fun K hK => ?_) AllReadyH.nil)
            go_simp
            refine (HS.out wr.drew (hBB.out.below hdr)).mono ?_
            rintro e w5 h5
            obtain ⟨A5, c5, rfl, hc5, hm5, hB5, hb5⟩ := h5.bytes
            have g5 : Below wr.heap.size wr w5 := hdr.trans (hb5.mono hdr.size)
            have k5 := run_str hB5 c5
            rw [HS1.out] at k5
            clear hb5 hB5 h5
            rw [HS1.out]
            go_wp2_with fail
            refine hK.out _ _ g5 (fun _ => ?_)
            clear hK K
            refine wpAnyH_ready (rs := [10]) (by kernel_rfl) (by simp) ?_
            refine (AllReadyH.cons (o := { dst := some 99, op := Op.convert 23 9 (Operand.tmp 98), type := 9, pos := "ref.go:79", after := #[{ on := 9, ground := Ground.data }], guard := none }) rfl (fun K hK => ?_) AllReadyH.nil)
            go_simp
            refine hK.out _ _ g5 (fun _ => ?_)
            clear hK K
            refine wpAnyH_ready (rs := [11]) (by kernel_rfl) (by simp) ?_
            refine (AllReadyH.cons (o := { dst := some 100, op := Op.binOp BinOp.neq 9 (Operand.tmp 94) (Operand.tmp 99) 9, type := 4, pos := "ref.go:79", after := #[{ on := 5, ground := Ground.data }, { on := 10, ground := Ground.data }], guard := none }) rfl (fun K hK => ?_) AllReadyH.nil)
            go_simp
            refine hK.out _ _ g5 (fun _ => ?_)
            clear hK K
            refine wpAnyH_done (by kernel_rfl) ?_ _
            go_wp2_with fail
            go_ret3
            exact ⟨_, by rw [HF.out]; rfl, by rw [HF.out]; exact hown.below g5, hbr.out.trans (g5.mono hz3)⟩
end Go.Proofs.YthfmhjpmcapcbaaDoor
