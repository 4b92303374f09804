/- The contract of the law PoolPlays. -/
import Derived.Test.YtfjpggpgiojmhaaPoBoth
import Derived.Test.YtfjpggpgiojmhaaPoEnds
namespace Go.Proofs.Ytfjpggpgiojmhaa
open Go.RowKit

set_option maxRecDepth 100000 in
set_option maxHeartbeats 8000000 in
theorem plays_law (j n r : Int) (A : Option Addr) (l : List Int) (c : Nat) (w : World) (lo0 : -9223372036854775808 ≤ j) (hi0 : j ≤ 9223372036854775807) (lo1 : -9223372036854775808 ≤ n) (hi1 : n ≤ 9223372036854775807) (lo2 : -9223372036854775808 ≤ r) (hi2 : r ≤ 9223372036854775807) (hI : IntRow w A l) (hc : l.length ≤ c) (hm : c ≤ 9223372036854775807) :
    Calls Try.prog 3 #[.int .i64 j, .int .i64 n, .int .i64 r, .slice A l.length c] w (Holds w) := by
  by_cases hlen : 200 < l.length
  · have hli : (200 : Int) < (l.length : Int) := by omega
    have b1 : decide ((200 : Int) < (l.length : Int)) = true := decide_eq_true hli
    clear hlen hli
    go_enter Try.func3, Try.ntmps3
    go_wp2_with fail
    refine (knows_any _).mono ?_
    rintro e w' ⟨rfl, hb⟩
    go_wp2_with fail
    go_ret
    exact ⟨rfl, hb⟩
  have hli : ¬ (200 : Int) < (l.length : Int) := by omega
  have b1 : decide ((200 : Int) < (l.length : Int)) = false := decide_eq_false hli
  have HLE := Lib.hid hlen
  have HCM := Lib.hid (And.intro hc hm)
  clear hli hlen hm
  by_cases h60 : 60 < j ∧ j ≤ 10000
  · have b2 : decide ((60 : Int) < j) = true := decide_eq_true h60.1
    have b3 : decide (j ≤ (10000 : Int)) = true := decide_eq_true h60.2
    clear h60
    go_enter Try.func3, Try.ntmps3
    go_wp2_with fail
    refine (knows_any _).mono ?_
    rintro e w' ⟨rfl, hb⟩
    go_wp2_with fail
    go_ret
    exact ⟨rfl, hb⟩
  have b23 : (60 < j ∧ ¬ j ≤ 10000) ∨ ¬ 60 < j := by omega
  have HFA := Lib.hid (fair_any j n r)
  have HNE := Lib.hid (New_any j n r w)
  cases hf : fairB j n r with
  | false =>
    rw [hf] at HFA
    rcases b23 with ⟨b2, b3⟩ | b2
    · clear h60
      go_enter Try.func3, Try.ntmps3
      go_wp2_with fail
      refine HNE.out.mono ?_
      rintro e w1 ⟨hb1, ⟨_, rfl⟩ | ⟨h, _⟩⟩
      case inr => rw [hf] at h; cases h
      have HB1 := Lib.hid hb1
      clear hf hb1
      go_wp2_with fail
      refine (HFA.out w1).mono ?_
      rintro e w2 ⟨rfl, rfl⟩
      go_wp2_with fail
      refine (knows_any _).mono ?_
      rintro e w' ⟨rfl, hb⟩
      go_wp2_with fail
      go_ret
      exact ⟨rfl, HB1.out.trans (hb.mono HB1.out.size)⟩
    · clear h60
      go_enter Try.func3, Try.ntmps3
      go_wp2_with fail
      refine HNE.out.mono ?_
      rintro e w1 ⟨hb1, ⟨_, rfl⟩ | ⟨h, _⟩⟩
      case inr => rw [hf] at h; cases h
      have HB1 := Lib.hid hb1
      clear hf hb1
      go_wp2_with fail
      refine (HFA.out w1).mono ?_
      rintro e w2 ⟨rfl, rfl⟩
      go_wp2_with fail
      refine (knows_any _).mono ?_
      rintro e w' ⟨rfl, hb⟩
      go_wp2_with fail
      go_ret
      exact ⟨rfl, HB1.out.trans (hb.mono HB1.out.size)⟩
  | true =>
  rw [hf] at HFA
  obtain ⟨J, N, R, rfl, rfl, rfl, hJ, hN1, hN2, hR1, hR2⟩ := fair_nat hf
  have HI0 := Lib.hid (fresh_inv J N R hJ ⟨hN1, hN2⟩ ⟨hR1, hR2⟩)
  have HRF := Lib.hid (rel_fresh J N R)
  have hJ60 : J ≤ 60 := by omega
  have hJi : (J : Int) ≤ 60 := by omega
  have hJ6 : J ≤ 1000000 := by omega
  have b2 : decide ((60 : Int) < (J : Int)) = false := decide_eq_false (by omega)
  have HIR := Lib.hid hI
  have HCC := Lib.hid hc
  clear lo0 hi0 lo1 hi1 lo2 hi2 hI hc h60 b23
  go_enter Try.func3, Try.ntmps3
  go_wp2_with fail
  refine HNE.out.mono ?_
  rintro e w1 ⟨hb1, ⟨h, _⟩ | ⟨_, B, hb, mb, rfl, hP, hB1, hB2, hB3⟩⟩
  · rw [hf] at h; cases h
  simp only [Int.toNat_natCast] at hP
  have HP0 := Lib.hid hP
  have HB1 := Lib.hid hb1
  have HBBB := Lib.hid (And.intro hB1 (And.intro hB2 hB3))
  clear hf hP hb1 hB1 hB2 hB3 HNE
  go_wp2_with fail
  refine (HFA.out w1).mono ?_
  rintro e w2 ⟨rfl, rfl⟩
  go_wp2_with (at_make; refine wpList_make_ints rfl (.tmp 55) (.tmp 55) rfl J w1 rfl rfl hJ6 ?_; intro w2 hrow hg)
  have hb2 : Below w1.heap.size w1 w2 := below_grown (Below.refl _ _) hg (Nat.le_refl _) (fun g e => by cases e)
  have hlt2 : w1.heap.size < w2.heap.size := (Array.getElem?_eq_some_iff.1 hrow).1
  obtain ⟨W3, hW3⟩ : ∃ W3, w2.alloc (.cells #[.slice (some ⟨w1.heap.size, 0, none⟩) J J, .int .i64 (N : Nat), .int .i64 (R : Nat)] 31) = W3 := ⟨_, rfl⟩
  rw [hW3]
  have hb3 : Below w2.heap.size w2 W3 := by rw [← hW3]; exact (Below.refl _ _).alloc (Nat.le_refl _) _
  have hbox : W3.heap[w2.heap.size]? = some (.cells #[.slice (some ⟨w1.heap.size, 0, none⟩) J J, .int .i64 (N : Nat), .int .i64 (R : Nat)] 31 (0, 0)) := by rw [← hW3]; exact heap_alloc_last _ _
  have hrow3 : W3.heap[w1.heap.size]? = some (.cells ((List.replicate J (0 : Int)).map (Value.int .i64)).toArray 3 (0, 0)) := by rw [hb3.block _ hlt2, hrow, List.map_replicate]
  have hb13 := hb2.trans (hb3.mono (Nat.le_of_lt hlt2))
  have hq := HP0.out.lt
  obtain ⟨B2, hB2⟩ : ∃ B2, w2.heap.size = B2 := ⟨_, rfl⟩
  obtain ⟨g, hg2⟩ : ∃ g, w1.heap.size = g := ⟨_, rfl⟩
  have HSD : Hid (Side B hb mb B2 g w.heap.size) := Lib.hid (by
    have q1 := HBBB.out
    have q2 := HB1.out.size
    exact ⟨by omega, by omega, by omega, by omega, by omega, by omega, by omega, by omega, by omega, by omega⟩)
  have HB0 : Hid (Both w.heap.size w W3 B hb mb B2 g (PoolM.fresh J N R) (List.replicate J 0)) := Lib.hid ⟨HP0.out.below hb13, ⟨⟨by
      simp only [PoolM.fresh, List.length_replicate]; rw [← hB2, ← hg2]; exact hbox, by rw [← hg2]; exact hrow3, by omega⟩, HRF.out, HI0.out⟩, HB1.out.trans (hb13.mono HB1.out.size), by have := HB1.out.size; have := hb13.size; omega⟩
  rw [hB2, hg2]
  clear hrow hg hb2 hlt2 hW3 hb3 hbox hrow3 hb13 hq hB2 hg2 HFA
  go_wp2_with fail
  go_loopw [12] (fun i wr => ∃ (t : Nat) (P : PoolM) (L : List Int), t ≤ l.length ∧ i = .int .i64 (t : Nat) ∧ Hid (Both w.heap.size w wr B hb mb B2 g P L) ∧ Hid (P.J = J)) (fun i _ => l.length - (intOf i).toNat)
  case atStart => exact ⟨0, _, _, by omega, rfl, HB0, Lib.hid rfl⟩
  case round =>
    obtain ⟨t, P, L, ht, rfl, HB, HPJ0⟩ := hrel
    by_cases htl : t < l.length
    · have hti : (t : Int) < (l.length : Int) := by omega
      have ht2 : (t : Int) ≤ 200 := by have := HLE.out; omega
      have HEN := Lib.hid (Enabled_any B hb mb P wr HB.out.pool HB.out.tied.inv)
      have HLL := Lib.hid (enab_len P (P.held.length + 2))
      go_wp2_with fail
      refine HEN.out.mono ?_
      rintro e w2 ⟨v, rfl, ho, hb2⟩
      obtain ⟨A1, c1, rfl, hc1, hm1, hr1⟩ := ReadI.of ho
      have HB2 := Lib.hid (HB.out.next hb2)
      have HRE := Lib.hid (renabled_any B2 g P L w2 HB2.out.tied)
      have HR1 := Lib.hid hr1
      clear ho hb2 hr1 HEN
      go_wp2_with fail
      refine HRE.out.mono ?_
      rintro e w3 ⟨v, rfl, ho, hb3⟩
      obtain ⟨A2, c2, rfl, hc2, hm2, hr2⟩ := ReadI.of ho
      have HB3 := Lib.hid (HB2.out.next hb3)
      have HIN := Lib.hid (ints_any (P.enab (P.held.length + 2)) A1 A2 c1 c2 w3 (HR1.out.below hb3) hr2 (by have := HLL.out; have := HB.out.tied.inv.ok.n; omega) hc1 hm1)
      clear ho hb3 hr2 HRE
      go_wp2_with fail
      refine HIN.out.mono ?_
      rintro e w4 ⟨rfl, m4, hw4⟩
      have HB4 : Hid (Both w.heap.size w w4 B hb mb B2 g P L) := Lib.hid (by rw [hw4]; exact HB3.out.drewN m4)
      clear hw4 HIN hc1 hm1 hc2 hm2
      obtain ⟨ba, offa, hA, hca, ha0, ha1⟩ := HIR.out.at HB4.out.below t htl
      have hccc : (l.length : Int) ≤ (c : Int) := by have := HCC.out; omega
      subst hA
      obtain ⟨a, ha⟩ : ∃ a, l[t] = a := ⟨_, rfl⟩
      rw [ha] at hca ha0 ha1
      have HSP := Lib.hid (Step_any B hb mb P a w4 HB4.out.pool HB4.out.tied.inv ha0 ha1)
      have HAB := Lib.hid (And.intro ha0 ha1)
      have HIX := Lib.hid (fun w' (h : Below w.heap.size w w') => HIR.out.at h t htl)
      clear ha0 ha1
      go_wp2_with fail
      refine HSP.out.mono ?_
      rintro e w4a ⟨hf4, ⟨hA, rfl, hP4⟩ | ⟨j', P', hA, rfl, hP4⟩⟩
      · have HBA := Lib.hid (HB4.out.same HSD.out hf4 hP4)
        have HRS := Lib.hid (rstep_any B2 g P L a w4a HBA.out.tied HAB.out.1 HAB.out.2)
        have HAA := Lib.hid hA
        obtain ⟨ba', offa', hA', hca', _, _⟩ := HIX.out w4a HBA.out.below
        injection hA' with hA'
        injection hA' with e1 e2 _
        subst e1; subst e2
        rw [ha] at hca'
        clear hca hf4 hP4 hA
        go_wp2_with fail
        refine HRS.out.mono ?_
        rintro e w5 (⟨_, rfl, m5, hw5⟩ | ⟨j5, P5, t5, m5, h, _⟩)
        case inr => rw [HAA.out] at h; cases h
        have HB5 : Hid (Both w.heap.size w w5 B hb mb B2 g P L) := Lib.hid (by rw [hw5]; exact HBA.out.drewN m5)
        have HPJ := HPJ0
        clear hw5 hca' ha
        have hal := HB5.out.tied.cnt.1
        have HAL := Lib.hid (alive_any B hb mb P w5 HB5.out.pool HB5.out.tied.inv.ok)
        obtain ⟨Y, hY⟩ : ∃ Y : Int, ((P.s - P.c : Nat) : Int) = Y := ⟨_, rfl⟩
        rw [hY] at HAL
        clear hal
        go_wp2_with fail
        refine HAL.out.mono ?_
        rintro e w6 ⟨rfl, m6, hw6⟩
        have HB6 : Hid (Both w.heap.size w w6 B hb mb B2 g P L) := Lib.hid (by rw [hw6]; exact HB5.out.drewN m6)
        clear hw6
        have HRA := Lib.hid (ralive_any B2 g _ _ L w6 HB6.out.tied.ref HB6.out.tied.small _ HB6.out.tied.cnt.1)
        rw [hY] at HRA
        clear hY
        go_wp2_with fail
        refine HRA.out.mono ?_
        rintro e w7 ⟨rfl, m7, hw7⟩
        have HB7 : Hid (Both w.heap.size w w7 B hb mb B2 g P L) := Lib.hid (by rw [hw7]; exact HB6.out.drewN m7)
        clear hw7
        have HWT := Lib.hid (waiting_any B hb mb P w7 HB7.out.pool)
        have HM2 := Lib.hid (many_any B2 g _ _ L 2 w7 HB7.out.tied.ref HB7.out.tied.small)
        rw [HB7.out.tied.rel.n2] at HM2
        have HO := Lib.hid (Out_any B hb mb P w7 HB7.out.pool HB7.out.tied.inv.small.2.2.2)
        go_wp2_with fail
        refine HWT.out.mono ?_
        rintro e w8 ⟨rfl, rfl⟩
        go_wp2_with fail
        refine HM2.out.mono ?_
        rintro e w8 ⟨rfl, rfl⟩
        go_wp2_with fail
        refine HO.out.mono ?_
        rintro e w8 ⟨g8, rfl, _, _, hb8⟩
        have HB8 := Lib.hid (HB7.out.next hb8)
        clear hb8
        have HM3 := Lib.hid (many_any B2 g _ _ L 3 w8 HB8.out.tied.ref HB8.out.tied.small)
        rw [HB8.out.tied.rel.n3] at HM3
        have HDO := Lib.hid (done_any B hb mb P w8 HB8.out.pool)
        go_wp2_with fail
        refine HM3.out.mono ?_
        rintro e w9 ⟨rfl, rfl⟩
        go_wp2_with fail
        cases hcj : (P.c == P.J) with
        | true =>
          have hcq : ((P.c : Int) == (J : Int)) = true := by rw [← HPJ.out, ← hcj, Bool.eq_iff_iff]; simp; omega
          rw [hcj] at HDO
          clear hcj
          refine HDO.out.mono ?_
          rintro e w9 ⟨rfl, m9, hw9⟩
          have HB9 : Hid (Both w.heap.size w w9 B hb mb B2 g P L) := Lib.hid (by rw [hw9]; exact HB8.out.drewN m9)
          clear hw9
          have HM4 := Lib.hid (many_any B2 g _ _ L 3 w9 HB9.out.tied.ref HB9.out.tied.small)
          rw [HB9.out.tied.rel.n3] at HM4
          go_wp2_with fail
          refine HM4.out.mono ?_
          rintro e w10 ⟨rfl, rfl⟩
          go_wp2_with fail
          exact ⟨⟨t + 1, P, L, by omega, by go_num, HB9, HPJ⟩, by simp [intOf]; omega⟩
        | false =>
          have hcq : ((P.c : Int) == (J : Int)) = false := by rw [← HPJ.out, ← hcj, Bool.eq_iff_iff]; simp; omega
          rw [hcj] at HDO
          clear hcj
          refine HDO.out.mono ?_
          rintro e w9 ⟨rfl, m9, hw9⟩
          have HB9 : Hid (Both w.heap.size w w9 B hb mb B2 g P L) := Lib.hid (by rw [hw9]; exact HB8.out.drewN m9)
          clear hw9
          have HM4 := Lib.hid (many_any B2 g _ _ L 3 w9 HB9.out.tied.ref HB9.out.tied.small)
          rw [HB9.out.tied.rel.n3] at HM4
          go_wp2_with fail
          refine HM4.out.mono ?_
          rintro e w10 ⟨rfl, rfl⟩
          go_wp2_with fail
          exact ⟨⟨t + 1, P, L, by omega, by go_num, HB9, HPJ⟩, by simp [intOf]; omega⟩
      · have HMI := Lib.hid (HB4.out.mid HSD.out hf4 hP4 hA)
        have HRS := Lib.hid (rstep_any B2 g P L a w4a HMI.out.tied HAB.out.1 HAB.out.2)
        have HAA := Lib.hid hA
        obtain ⟨ba', offa', hA', hca', _, _⟩ := HIX.out w4a HMI.out.below
        injection hA' with hA'
        injection hA' with e1 e2 _
        subst e1; subst e2
        rw [ha] at hca'
        clear hca hf4 hP4 hA
        go_wp2_with fail
        refine HRS.out.mono ?_
        rintro e w5 (⟨h, _⟩ | ⟨j5, P5, t5, m5, h, rfl, hj5, hr5, hw5⟩)
        · rw [HAA.out] at h; cases h
        rw [HAA.out] at h
        injection h with h
        injection h with e1 e2
        subst e1; subst e2
        have HB5 : Hid (Both w.heap.size w w5 B hb mb B2 g P' (L.set j' t5)) := Lib.hid (by rw [hw5]; exact HMI.out.both m5 HSD.out hr5)
        have HPJ : Hid (P'.J = J) := Lib.hid (HMI.out.nx.J.trans HPJ0.out)
        generalize L.set j' t5 = L' at *
        clear hw5 hca' ha hr5
        have hal := HB5.out.tied.cnt.1
        have HAL := Lib.hid (alive_any B hb mb P' w5 HB5.out.pool HB5.out.tied.inv.ok)
        obtain ⟨Y, hY⟩ : ∃ Y : Int, ((P'.s - P'.c : Nat) : Int) = Y := ⟨_, rfl⟩
        rw [hY] at HAL
        clear hal
        go_wp2_with fail
        refine HAL.out.mono ?_
        rintro e w6 ⟨rfl, m6, hw6⟩
        have HB6 : Hid (Both w.heap.size w w6 B hb mb B2 g P' L') := Lib.hid (by rw [hw6]; exact HB5.out.drewN m6)
        clear hw6
        have HRA := Lib.hid (ralive_any B2 g _ _ L' w6 HB6.out.tied.ref HB6.out.tied.small _ HB6.out.tied.cnt.1)
        rw [hY] at HRA
        clear hY
        go_wp2_with fail
        refine HRA.out.mono ?_
        rintro e w7 ⟨rfl, m7, hw7⟩
        have HB7 : Hid (Both w.heap.size w w7 B hb mb B2 g P' L') := Lib.hid (by rw [hw7]; exact HB6.out.drewN m7)
        clear hw7
        have HWT := Lib.hid (waiting_any B hb mb P' w7 HB7.out.pool)
        have HM2 := Lib.hid (many_any B2 g _ _ L' 2 w7 HB7.out.tied.ref HB7.out.tied.small)
        rw [HB7.out.tied.rel.n2] at HM2
        have HO := Lib.hid (Out_any B hb mb P' w7 HB7.out.pool HB7.out.tied.inv.small.2.2.2)
        go_wp2_with fail
        refine HWT.out.mono ?_
        rintro e w8 ⟨rfl, rfl⟩
        go_wp2_with fail
        refine HM2.out.mono ?_
        rintro e w8 ⟨rfl, rfl⟩
        go_wp2_with fail
        refine HO.out.mono ?_
        rintro e w8 ⟨g8, rfl, _, _, hb8⟩
        have HB8 := Lib.hid (HB7.out.next hb8)
        clear hb8
        have HM3 := Lib.hid (many_any B2 g _ _ L' 3 w8 HB8.out.tied.ref HB8.out.tied.small)
        rw [HB8.out.tied.rel.n3] at HM3
        have HDO := Lib.hid (done_any B hb mb P' w8 HB8.out.pool)
        go_wp2_with fail
        refine HM3.out.mono ?_
        rintro e w9 ⟨rfl, rfl⟩
        go_wp2_with fail
        cases hcj : (P'.c == P'.J) with
        | true =>
          have hcq : ((P'.c : Int) == (J : Int)) = true := by rw [← HPJ.out, ← hcj, Bool.eq_iff_iff]; simp; omega
          rw [hcj] at HDO
          clear hcj
          refine HDO.out.mono ?_
          rintro e w9 ⟨rfl, m9, hw9⟩
          have HB9 : Hid (Both w.heap.size w w9 B hb mb B2 g P' L') := Lib.hid (by rw [hw9]; exact HB8.out.drewN m9)
          clear hw9
          have HM4 := Lib.hid (many_any B2 g _ _ L' 3 w9 HB9.out.tied.ref HB9.out.tied.small)
          rw [HB9.out.tied.rel.n3] at HM4
          go_wp2_with fail
          refine HM4.out.mono ?_
          rintro e w10 ⟨rfl, rfl⟩
          go_wp2_with fail
          exact ⟨⟨t + 1, P', L', by omega, by go_num, HB9, HPJ⟩, by simp [intOf]; omega⟩
        | false =>
          have hcq : ((P'.c : Int) == (J : Int)) = false := by rw [← HPJ.out, ← hcj, Bool.eq_iff_iff]; simp; omega
          rw [hcj] at HDO
          clear hcj
          refine HDO.out.mono ?_
          rintro e w9 ⟨rfl, m9, hw9⟩
          have HB9 : Hid (Both w.heap.size w w9 B hb mb B2 g P' L') := Lib.hid (by rw [hw9]; exact HB8.out.drewN m9)
          clear hw9
          have HM4 := Lib.hid (many_any B2 g _ _ L' 3 w9 HB9.out.tied.ref HB9.out.tied.small)
          rw [HB9.out.tied.rel.n3] at HM4
          go_wp2_with fail
          refine HM4.out.mono ?_
          rintro e w10 ⟨rfl, rfl⟩
          go_wp2_with fail
          exact ⟨⟨t + 1, P', L', by omega, by go_num, HB9, HPJ⟩, by simp [intOf]; omega⟩
    · obtain rfl : t = l.length := by omega
      have HEN := Lib.hid (Enabled_any B hb mb P wr HB.out.pool HB.out.tied.inv)
      have HLL := Lib.hid (enab_len P (P.held.length + 2))
      go_wp2_with fail
      refine HEN.out.mono ?_
      rintro e w2 ⟨v, rfl, ho, hb2⟩
      obtain ⟨A1, c1, rfl, hc1, hm1, hr1⟩ := ReadI.of ho
      have HB2 := Lib.hid (HB.out.next hb2)
      have HRE := Lib.hid (renabled_any B2 g P L w2 HB2.out.tied)
      have HR1 := Lib.hid hr1
      clear ho hb2 hr1 HEN
      go_wp2_with fail
      refine HRE.out.mono ?_
      rintro e w3 ⟨v, rfl, ho, hb3⟩
      obtain ⟨A2, c2, rfl, hc2, hm2, hr2⟩ := ReadI.of ho
      have HB3 := Lib.hid (HB2.out.next hb3)
      have HIN := Lib.hid (ints_any (P.enab (P.held.length + 2)) A1 A2 c1 c2 w3 (HR1.out.below hb3) hr2 (by have := HLL.out; have := HB.out.tied.inv.ok.n; omega) hc1 hm1)
      clear ho hb3 hr2 HRE
      go_wp2_with fail
      refine HIN.out.mono ?_
      rintro e w4 ⟨rfl, m4, hw4⟩
      have HB4 : Hid (Both w.heap.size w w4 B hb mb B2 g P L) := Lib.hid (by rw [hw4]; exact HB3.out.drewN m4)
      clear hw4 HIN hc1 hm1 hc2 hm2
      go_wp2_with fail
      refine (knows_any _).mono ?_
      rintro e w' ⟨rfl, hb⟩
      go_wp2_with fail
      go_ret
      exact ⟨rfl, HB4.out.below.trans (hb.mono HB4.out.size)⟩
end Go.Proofs.Ytfjpggpgiojmhaa
