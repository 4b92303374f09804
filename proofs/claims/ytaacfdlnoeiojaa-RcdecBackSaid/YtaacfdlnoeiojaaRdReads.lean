/- The contract of the law RcdecReads. -/
import Derived.Test.YtaacfdlnoeiojaaRdKnows
import Derived.Test.YtaacfdlnoeiojaaRdRNew
import Derived.Test.YtaacfdlnoeiojaaRcDeed
namespace Go.Proofs.Ytaacfdlnoeiojaa
open Go.RowKit

theorem DeedAt.only {w w' : World} {b o : Nat} {d : Deed} {X : List Nat} (h : DeedAt w b o d) (hon : Only X w w') (hX : b ∉ X) (hb : b < w.heap.size) : DeedAt w' b o d := by
  have hc : ∀ k, w'.cell? ⟨b, k, none⟩ = w.cell? ⟨b, k, none⟩ := fun k => by unfold World.cell?; simp only; rw [hon.block b hb hX]
  exact ⟨(hc _).trans h.c0, (hc _).trans h.c1, (hc _).trans h.c2, (hc _).trans h.c3, (hc _).trans h.c4, h.bw, h.bb, h.bn⟩
theorem DeedAt.below {w w' : World} {b o B : Nat} {d : Deed} (h : DeedAt w b o d) (hb : Below B w w') (hlt : b < B) : DeedAt w' b o d := by
  have hc : ∀ k, w'.cell? ⟨b, k, none⟩ = w.cell? ⟨b, k, none⟩ := fun k => hb.cell (p := ⟨b, k, none⟩) hlt
  exact ⟨(hc _).trans h.c0, (hc _).trans h.c1, (hc _).trans h.c2, (hc _).trans h.c3, (hc _).trans h.c4, h.bw, h.bb, h.bn⟩
theorem RDecIs.only1 {w w' : World} {h b off cc g : Nat} {l : List UInt8} {s : Rd.St} (k : RDecIs w h b off cc l s) (hon : Only [g] w w') (hgh : g ≠ h) (hgb : g ≠ b) : RDecIs w' h b off cc l s := by
  obtain ⟨x, y, h1, h2⟩ := k
  exact ⟨x, y, h1, h2.keep hon.size (hon.block h h2.hlt (by simpa using fun e => hgh e.symm)) (hon.block b h2.lt (by simpa using fun e => hgb e.symm))⟩
theorem DecIs.only1 {w w' : World} {g o cap h : Nat} {l : List UInt8} {s : Rd.St} (k : DecIs w g o cap l s) (hon : Only [h] w w') (hgh : g ≠ h) (hoh : o ≠ h) : DecIs w' g o cap l s := by
  obtain ⟨x, y, h1, h2⟩ := k
  exact ⟨x, y, h1, h2.keep hon.size (hon.block g h2.glt (by simpa using hgh)) (hon.block o h2.lt (by simpa using hoh))⟩

/-- Both decoders are in one state. -/
structure Reads (w wr : World) (g o cap h b off cc : Nat) (l : List UInt8) (s : Rd.St) : Prop where
  d : DecIs wr g o cap l s
  r : RDecIs wr h b off cc l s
  ok : s.ok l
  below : Below w.heap.size w wr
def ReadsAt (w : World) (g o cap h b off cc : Nat) (l : List UInt8) (wr : World) : Prop := ∃ s, Reads w wr g o cap h b off cc l s

set_option maxRecDepth 100000 in
set_option maxHeartbeats 2000000 in
theorem reads_law (A : Option Addr) (l : List UInt8) (cc : Nat) (A2 : Option Addr) (len c2 : Nat) (D : Nat → Deed) (w : World) (hB : Bytes w A l) (_hc : l.length ≤ cc) (_hm : cc ≤ 9223372036854775807) (hB2 : Deeds w A2 len D) (_hc2 : len ≤ c2) (_hm2 : c2 ≤ 9223372036854775807) :
    Calls Try.prog 3 #[.slice A l.length cc, .slice A2 len c2] w (Holds w) := by
  by_cases h1 : 300 < l.length
  · generalize l.length = L at *
    have h1' : (300 : Int) < L := by omega
    go_enter Try.func3, Try.ntmps3
    go_wp2_with fail
    refine (dknows_any _).mono ?_
    rintro e w' ⟨rfl, hb⟩
    go_wp2_with fail
    go_ret
    exact ⟨rfl, hb⟩
  have h1' : ¬ (300 : Int) < (l.length : Int) := by omega
  have h1b : decide ((300 : Int) < (l.length : Int)) = false := decide_eq_false h1'
  by_cases h2 : 200 < len
  · have h2' : (200 : Int) < len := by omega
    generalize l.length = L at *
    go_enter Try.func3, Try.ntmps3
    go_wp2_with fail
    refine (dknows_any _).mono ?_
    rintro e w' ⟨rfl, hb⟩
    go_wp2_with fail
    go_ret
    exact ⟨rfl, hb⟩
  have h2' : ¬ (200 : Int) < (len : Int) := by omega
  have h2b : decide ((200 : Int) < (len : Int)) = false := decide_eq_false h2'
  by_cases hs : l.length < 5
  ·
    go_enter Try.func3, Try.ntmps3
    go_wp2_with fail
    refine (dnew_short A l cc w hs).mono ?_
    rintro e w' ⟨rfl, rfl⟩
    go_wp2_with fail
    refine (rdnew_short A l cc w hs).mono ?_
    rintro e w' ⟨rfl, rfl⟩
    go_wp2_with fail
    refine (dknows_any _).mono ?_
    rintro e w' ⟨rfl, hb⟩
    go_wp2_with fail
    go_ret
    exact ⟨rfl, hb⟩
  have h5 : 5 ≤ l.length := by omega
  by_cases hz : l.getD 0 0 ≠ 0
  ·
    go_enter Try.func3, Try.ntmps3
    go_wp2_with fail
    refine (dnew_bad A l cc w hB h5 hz).mono ?_
    rintro e w' ⟨rfl, rfl⟩
    go_wp2_with fail
    refine (rdnew_bad A l cc w hB h5 hz).mono ?_
    rintro e w' ⟨rfl, rfl⟩
    go_wp2_with fail
    refine (dknows_any _).mono ?_
    rintro e w' ⟨rfl, hb⟩
    go_wp2_with fail
    go_ret
    exact ⟨rfl, hb⟩
  have hz0 : l.getD 0 0 = 0 := by simpa using hz
  obtain ⟨b, off, rfl, hb, _⟩ := hB.five h5
  have hl : l.length ≤ 140737488355328 := by omega
  have HN1 := Lib.hid (dnew_good _ l cc w hB h5 hl hz0)
  have HN2 := Lib.hid (fun (w1 : World) (hB1 : Bytes w1 (some ⟨b, off, none⟩) l) => rdnew_good b off l cc w1 hB1 h5 hz0)
  clear hz hz0
  go_enter Try.func3, Try.ntmps3
  go_wp2_with fail
  refine HN1.out.mono ?_
  rintro e w1 ⟨g, o, cap, rfl, hD, hb1, hg, ho⟩
  go_wp2_with fail
  refine (HN2.out _ (hB.below hb1)).mono ?_
  rintro e w2 ⟨h, rfl, hR, hb2, hh⟩
  have hso := Rd.start_ok h5
  have hre : ReadsAt w g o cap h b off cc l w2 := ⟨Rd.start l, hD.below hb2, hR, hso, hb1.trans (hb2.mono hb1.size)⟩
  obtain ⟨hgl, hol⟩ : g < w1.heap.size ∧ o < w1.heap.size := by
    obtain ⟨x, y, _, hT⟩ := hD; exact ⟨hT.glt, hT.lt⟩
  have hgh : g ≠ h := by omega
  have hoh : o ≠ h := by omega
  have hsz1 := hb1.size
  have hwh : w.heap.size ≤ h := by omega
  clear hD hR hb1 hb2 HN1 HN2 hso h1b h2b
  have hl300 : l.length ≤ 300 := by omega
  go_wp2_with fail
  go_loopw [9] (fun i wr => ∃ t : Nat, t ≤ len ∧ i = .int .i64 (t : Nat) ∧ ReadsAt w g o cap h b off cc l wr) (fun i _ => len - (intOf i).toNat)
  case atStart => exact ⟨0, by omega, rfl, hre⟩
  case round =>
    obtain ⟨t, ht, rfl, s, hD, hR, hok, hbel⟩ := hrel
    clear hre
    by_cases hlt : t < len
    · obtain ⟨bd, offd, rfl, hab, hd⟩ := hB2.resolve_left (by omega)
      have hd0 := (hd t hlt).below hbel hab
      have hlt' : (t : Int) < len := by omega
      have hbl : bd < wr.heap.size := Nat.lt_of_lt_of_le hab hbel.size
      have hbd0 : bd ≠ g := by omega
      have hbdh : bd ≠ h := by omega
      generalize D t = d at *
      have HB2 := Lib.hid hB2
      clear hd hB2 hB
      have e0 := hd0.c0
      go_upto_if 57 with (fail)
      go_cut [10] (fun _ wx => ReadsAt w g o cap h b off cc l wx)
      case first =>
        have hd1 : DeedAt wr.drew bd (offd + t * 5) d := hd0.below (drew_below _) hbl
        by_cases hw0 : d.what = 0
        · have hw0b : (d.what == 0) = true := by simp [hw0]
          obtain ⟨hp1, hp2⟩ := Rc.fair_bounds d.chance.toNat
          have hok' := Rd.St.bit_ok hok hp1 hp2
          have HB := Lib.hid (fun (w' : World) (hD' : DecIs w' g o cap l s) => dbit_any g o cap l s d.chance d.bit w' hD' hok hl)
          have HRB := Lib.hid (fun (w' : World) (hR' : RDecIs w' h b off cc l s) => rdbit_any h b off cc l s d.chance w' hR' hok hl)
          generalize (s.bit l (Rc.fair d.chance.toNat)).2 = s' at *
          generalize (s.bit l (Rc.fair d.chance.toNat)).1 = bt at *
          generalize Rc.next (Rc.fair d.chance.toNat) bt = nx at *
          have HW0 := Lib.hid hw0
          clear hw0 hp1 hp2
          go_wp2_with fail
          refine wp_region_held_drew (S := fun w' => DeedAt w' bd (offd + t * 5) d) (by kernel_rfl) hd1 (fun hS => ?_)
          refine wpAnyH_take (i := 0) (oi := { dst := some 59, op := Op.move (Operand.tmp 5), type := 25, pos := "law.go:50", after := #[], guard := none }) (v := ?va1) rfl (by kernel_rfl) (by kernel_rfl) (by kernel_rfl) (fun _ _ _ h => h) (Or.inl ⟨by rfl, ?ya1⟩) hS ?_
          case ya1 =>
            intro w hSw
            go_simp; all_goals (with_reducible rfl)
          simp only [Act.put, List.setIfInBounds_toArray, List.set_cons_zero, List.set_cons_succ]
          refine wpAnyH_take (i := 1) (oi := { dst := some 60, op := Op.move (Operand.tmp 1), type := 23, pos := "law.go:50", after := #[], guard := none }) (v := ?va2) rfl (by kernel_rfl) (by kernel_rfl) (by kernel_rfl) (fun _ _ _ h => h) (Or.inl ⟨by rfl, ?ya2⟩) hS ?_
          case ya2 =>
            intro w hSw
            go_simp; all_goals (with_reducible rfl)
          simp only [Act.put, List.setIfInBounds_toArray, List.set_cons_zero, List.set_cons_succ]
          refine wpAnyH_take (i := 2) (oi := { dst := some 61, op := Op.move (Operand.tmp 9), type := 3, pos := "law.go:50", after := #[], guard := none }) (v := ?va3) rfl (by kernel_rfl) (by kernel_rfl) (by kernel_rfl) (fun _ _ _ h => h) (Or.inl ⟨by rfl, ?ya3⟩) hS ?_
          case ya3 =>
            intro w hSw
            go_simp; all_goals (with_reducible rfl)
          simp only [Act.put, List.setIfInBounds_toArray, List.set_cons_zero, List.set_cons_succ]
          refine wpAnyH_take (i := 3) (oi := { dst := some 62, op := Op.indexAddr 23 (Operand.tmp 60) (Operand.tmp 61), type := 0, pos := "law.go:50", after := #[{ on := 1, ground := Ground.data }, { on := 2, ground := Ground.data }], guard := none }) (v := ?va4) rfl (by kernel_rfl) (by kernel_rfl) (by kernel_rfl) (fun _ _ _ h => h) (Or.inl ⟨by rfl, ?ya4⟩) hS ?_
          case ya4 =>
            intro w hSw
            go_simp; all_goals (with_reducible rfl)
          simp only [Act.put, List.setIfInBounds_toArray, List.set_cons_zero, List.set_cons_succ]
          refine wpAnyH_take (i := 4) (oi := { dst := some 63, op := Op.fieldAddr 35 (Operand.tmp 62) 1, type := 0, pos := "law.go:50", after := #[{ on := 3, ground := Ground.data }], guard := none }) (v := ?va5) rfl (by kernel_rfl) (by kernel_rfl) (by kernel_rfl) (fun _ _ _ h => h) (Or.inl ⟨by rfl, ?ya5⟩) hS ?_
          case ya5 =>
            intro w hSw
            go_simp; all_goals (with_reducible rfl)
          simp only [Act.put, List.setIfInBounds_toArray, List.set_cons_zero, List.set_cons_succ]
          refine wpAnyH_take (i := 5) (oi := { dst := some 64, op := Op.load 32 (Operand.tmp 63), type := 32, pos := "law.go:50", after := #[{ on := 4, ground := Ground.data }], guard := none }) (v := ?va6) rfl (by kernel_rfl) (by kernel_rfl) (by kernel_rfl) (fun _ _ _ h => h) (Or.inl ⟨by rfl, ?ya6⟩) hS ?_
          case ya6 =>
            intro w hSw
            obtain ⟨j0, j1, j2, j3, j4, _, _, _⟩ := hSw
            go_simp; all_goals (with_reducible rfl)
          simp only [Act.put, List.setIfInBounds_toArray, List.set_cons_zero, List.set_cons_succ]
          refine wpAnyH_take (i := 6) (oi := { dst := some 65, op := Op.move (Operand.tmp 1), type := 23, pos := "law.go:50", after := #[], guard := none }) (v := ?va7) rfl (by kernel_rfl) (by kernel_rfl) (by kernel_rfl) (fun _ _ _ h => h) (Or.inl ⟨by rfl, ?ya7⟩) hS ?_
          case ya7 =>
            intro w hSw
            go_simp; all_goals (with_reducible rfl)
          simp only [Act.put, List.setIfInBounds_toArray, List.set_cons_zero, List.set_cons_succ]
          refine wpAnyH_take (i := 7) (oi := { dst := some 66, op := Op.move (Operand.tmp 9), type := 3, pos := "law.go:50", after := #[], guard := none }) (v := ?va8) rfl (by kernel_rfl) (by kernel_rfl) (by kernel_rfl) (fun _ _ _ h => h) (Or.inl ⟨by rfl, ?ya8⟩) hS ?_
          case ya8 =>
            intro w hSw
            go_simp; all_goals (with_reducible rfl)
          simp only [Act.put, List.setIfInBounds_toArray, List.set_cons_zero, List.set_cons_succ]
          refine wpAnyH_take (i := 8) (oi := { dst := some 67, op := Op.indexAddr 23 (Operand.tmp 65) (Operand.tmp 66), type := 0, pos := "law.go:50", after := #[{ on := 6, ground := Ground.data }, { on := 7, ground := Ground.data }], guard := none }) (v := ?va9) rfl (by kernel_rfl) (by kernel_rfl) (by kernel_rfl) (fun _ _ _ h => h) (Or.inl ⟨by rfl, ?ya9⟩) hS ?_
          case ya9 =>
            intro w hSw
            go_simp; all_goals (with_reducible rfl)
          simp only [Act.put, List.setIfInBounds_toArray, List.set_cons_zero, List.set_cons_succ]
          refine wpAnyH_take (i := 9) (oi := { dst := some 68, op := Op.fieldAddr 35 (Operand.tmp 67) 2, type := 0, pos := "law.go:50", after := #[{ on := 8, ground := Ground.data }], guard := none }) (v := ?va10) rfl (by kernel_rfl) (by kernel_rfl) (by kernel_rfl) (fun _ _ _ h => h) (Or.inl ⟨by rfl, ?ya10⟩) hS ?_
          case ya10 =>
            intro w hSw
            go_simp; all_goals (with_reducible rfl)
          simp only [Act.put, List.setIfInBounds_toArray, List.set_cons_zero, List.set_cons_succ]
          refine wpAnyH_take (i := 10) (oi := { dst := some 69, op := Op.load 3 (Operand.tmp 68), type := 3, pos := "law.go:50", after := #[{ on := 9, ground := Ground.data }], guard := none }) (v := ?va11) rfl (by kernel_rfl) (by kernel_rfl) (by kernel_rfl) (fun _ _ _ h => h) (Or.inl ⟨by rfl, ?ya11⟩) hS ?_
          case ya11 =>
            intro w hSw
            obtain ⟨j0, j1, j2, j3, j4, _, _, _⟩ := hSw
            go_simp; all_goals (with_reducible rfl)
          simp only [Act.put, List.setIfInBounds_toArray, List.set_cons_zero, List.set_cons_succ]
          refine wpAnyH_ready (rs := [11]) (by kernel_rfl) (by simp) ?_
          refine (AllReadyH.cons (o := { dst := some 70, op := Op.call { callee := Callee.value (Operand.func 8), args := #[Operand.tmp 59, Operand.tmp 64, Operand.tmp 69], argTypes := #[25, 32, 3] }, type := 36, pos := "law.go:50", after := #[{ on := 0, ground := Ground.data }, { on := 5, ground := Ground.data }, { on := 10, ground := Ground.data }], guard := none }) rfl (fun K hK => ?_) AllReadyH.nil)
          go_simp
          refine (HB.out _ (hD.below (drew_below _))).mono ?_
          rintro e w3 ⟨rfl, hD3, hon3⟩
          have hd3 := hd1.only hon3 (by simp; omega) hbl
          go_wp2_with fail
          refine hK.out _ _ hd3 (fun _ => ?_)
          clear hK K
          refine wpAnyH_take (i := 12) (oi := { dst := some 58, op := Op.move (Operand.tmp 70), type := 36, pos := "law.go:50", after := #[{ on := 11, ground := Ground.data }], guard := none }) (v := ?va12) rfl (by kernel_rfl) (by kernel_rfl) (by kernel_rfl) (fun _ _ _ h => h) (Or.inl ⟨by rfl, ?ya12⟩) hd3 ?_
          case ya12 =>
            intro w hSw
            go_simp; all_goals (with_reducible rfl)
          simp only [Act.put, List.setIfInBounds_toArray, List.set_cons_zero, List.set_cons_succ]
          refine wpAnyH_take (i := 13) (oi := { dst := some 71, op := Op.extract (Operand.tmp 58) 0, type := 3, pos := "law.go:50", after := #[{ on := 12, ground := Ground.data }], guard := none }) (v := ?va13) rfl (by kernel_rfl) (by kernel_rfl) (by kernel_rfl) (fun _ _ _ h => h) (Or.inl ⟨by rfl, ?ya13⟩) hd3 ?_
          case ya13 =>
            intro w hSw
            go_simp; all_goals (with_reducible rfl)
          simp only [Act.put, List.setIfInBounds_toArray, List.set_cons_zero, List.set_cons_succ]
          refine wpAnyH_take (i := 14) (oi := { dst := some 72, op := Op.extract (Operand.tmp 58) 1, type := 32, pos := "law.go:50", after := #[{ on := 12, ground := Ground.data }, { on := 15, ground := Ground.gcOnly Departure.lateStores }], guard := none }) (v := ?va14) rfl (by kernel_rfl) (by kernel_rfl) (by kernel_rfl) (fun _ _ _ h => h) (Or.inl ⟨by rfl, ?ya14⟩) hd3 ?_
          case ya14 =>
            intro w hSw
            go_simp; all_goals (with_reducible rfl)
          simp only [Act.put, List.setIfInBounds_toArray, List.set_cons_zero, List.set_cons_succ]
          refine wpAnyH_take (i := 15) (oi := { dst := some 10, op := Op.assign (Operand.tmp 71), type := 3, pos := "law.go:50", after := #[{ on := 13, ground := Ground.data }, { on := 11, ground := Ground.chain }, { on := 0, ground := Ground.phase }, { on := 1, ground := Ground.phase }, { on := 2, ground := Ground.phase }, { on := 3, ground := Ground.phase }, { on := 4, ground := Ground.phase }, { on := 5, ground := Ground.phase }, { on := 6, ground := Ground.phase }, { on := 7, ground := Ground.phase }, { on := 8, ground := Ground.phase }, { on := 9, ground := Ground.phase }, { on := 10, ground := Ground.phase }, { on := 11, ground := Ground.phase }, { on := 12, ground := Ground.phase }, { on := 13, ground := Ground.phase }, { on := 14, ground := Ground.textOnly Departure.lateStores }], guard := none }) (v := ?va15) rfl (by kernel_rfl) (by kernel_rfl) (by kernel_rfl) (fun _ _ _ h => h) (Or.inl ⟨by rfl, ?ya15⟩) hd3 ?_
          case ya15 =>
            intro w hSw
            go_simp; all_goals (with_reducible rfl)
          simp only [Act.put, List.setIfInBounds_toArray, List.set_cons_zero, List.set_cons_succ]
          refine wpAnyH_take (i := 16) (oi := { dst := some 11, op := Op.assign (Operand.tmp 72), type := 32, pos := "law.go:50", after := #[{ on := 14, ground := Ground.data }, { on := 15, ground := Ground.chain }, { on := 0, ground := Ground.phase }, { on := 1, ground := Ground.phase }, { on := 2, ground := Ground.phase }, { on := 3, ground := Ground.phase }, { on := 4, ground := Ground.phase }, { on := 5, ground := Ground.phase }, { on := 6, ground := Ground.phase }, { on := 7, ground := Ground.phase }, { on := 8, ground := Ground.phase }, { on := 9, ground := Ground.phase }, { on := 10, ground := Ground.phase }, { on := 11, ground := Ground.phase }, { on := 12, ground := Ground.phase }, { on := 13, ground := Ground.phase }, { on := 14, ground := Ground.phase }, { on := 15, ground := Ground.phase }], guard := none }) (v := ?va16) rfl (by kernel_rfl) (by kernel_rfl) (by kernel_rfl) (fun _ _ _ h => h) (Or.inl ⟨by rfl, ?ya16⟩) hd3 ?_
          case ya16 =>
            intro w hSw
            go_simp; all_goals (with_reducible rfl)
          simp only [Act.put, List.setIfInBounds_toArray, List.set_cons_zero, List.set_cons_succ]
          refine wpAnyH_done (by kernel_rfl) ?_ _
          have e1 := hd3.c1
          have hR3 := hR.only1 hon3.undrew hgh (by omega)
          go_wp2_with fail
          refine (HRB.out _ hR3).mono ?_
          rintro e w4 ⟨rfl, hR4, hon4⟩
          go_wp2_with fail
          go_meet
          have b1 := hbel.trans (hon3.undrew.below hbel.size (by intro i hi; simp at hi; omega))
          exact ⟨s', hD3.only1 hon4 hgh hoh, hR4, hok', b1.trans (hon4.below b1.size (by intro i hi; simp at hi; omega))⟩
        · have hw0b : (d.what == 0) = false := by simp [hw0]
          have hm32 : many d.n ≤ 32 := by unfold many; omega
          have HP := Lib.hid (fun (w' : World) (hD' : DecIs w' g o cap l s) => dplain_any g o cap l s d.v d.n w' hD' hok hl)
          have HRP := Lib.hid (fun (w' : World) (hR' : RDecIs w' h b off cc l s) => rdplain_any h b off cc l s (many d.n) w' hR' hok hl hm32)
          have hok' : (s.plain l (many d.n)).2.ok l := by
            have hro := (Rd.St.rounds_ok hok (many d.n)).1
            unfold Rd.St.plain; split <;> exact hro
          generalize hM : many d.n = m at *
          have HM := Lib.hid hM
          generalize (s.plain l m).2 = s' at *
          generalize (s.plain l m).1 = pv at *
          have HW0 := Lib.hid hw0
          clear hw0 hM
          go_wp2_with fail
          refine wp_region_held_drew (S := fun w' => DeedAt w' bd (offd + t * 5) d) (by kernel_rfl) hd1 (fun hS => ?_)
          refine wpAnyH_take (i := 0) (oi := { dst := some 91, op := Op.move (Operand.tmp 5), type := 25, pos := "law.go:55", after := #[], guard := none }) (v := ?vb17) rfl (by kernel_rfl) (by kernel_rfl) (by kernel_rfl) (fun _ _ _ h => h) (Or.inl ⟨by rfl, ?yb17⟩) hS ?_
          case yb17 =>
            intro w hSw
            go_simp; all_goals (with_reducible rfl)
          simp only [Act.put, List.setIfInBounds_toArray, List.set_cons_zero, List.set_cons_succ]
          refine wpAnyH_take (i := 1) (oi := { dst := some 92, op := Op.move (Operand.tmp 1), type := 23, pos := "law.go:55", after := #[], guard := none }) (v := ?vb18) rfl (by kernel_rfl) (by kernel_rfl) (by kernel_rfl) (fun _ _ _ h => h) (Or.inl ⟨by rfl, ?yb18⟩) hS ?_
          case yb18 =>
            intro w hSw
            go_simp; all_goals (with_reducible rfl)
          simp only [Act.put, List.setIfInBounds_toArray, List.set_cons_zero, List.set_cons_succ]
          refine wpAnyH_take (i := 2) (oi := { dst := some 93, op := Op.move (Operand.tmp 9), type := 3, pos := "law.go:55", after := #[], guard := none }) (v := ?vb19) rfl (by kernel_rfl) (by kernel_rfl) (by kernel_rfl) (fun _ _ _ h => h) (Or.inl ⟨by rfl, ?yb19⟩) hS ?_
          case yb19 =>
            intro w hSw
            go_simp; all_goals (with_reducible rfl)
          simp only [Act.put, List.setIfInBounds_toArray, List.set_cons_zero, List.set_cons_succ]
          refine wpAnyH_take (i := 3) (oi := { dst := some 94, op := Op.indexAddr 23 (Operand.tmp 92) (Operand.tmp 93), type := 0, pos := "law.go:55", after := #[{ on := 1, ground := Ground.data }, { on := 2, ground := Ground.data }], guard := none }) (v := ?vb20) rfl (by kernel_rfl) (by kernel_rfl) (by kernel_rfl) (fun _ _ _ h => h) (Or.inl ⟨by rfl, ?yb20⟩) hS ?_
          case yb20 =>
            intro w hSw
            go_simp; all_goals (with_reducible rfl)
          simp only [Act.put, List.setIfInBounds_toArray, List.set_cons_zero, List.set_cons_succ]
          refine wpAnyH_take (i := 4) (oi := { dst := some 95, op := Op.fieldAddr 35 (Operand.tmp 94) 3, type := 0, pos := "law.go:55", after := #[{ on := 3, ground := Ground.data }], guard := none }) (v := ?vb21) rfl (by kernel_rfl) (by kernel_rfl) (by kernel_rfl) (fun _ _ _ h => h) (Or.inl ⟨by rfl, ?yb21⟩) hS ?_
          case yb21 =>
            intro w hSw
            go_simp; all_goals (with_reducible rfl)
          simp only [Act.put, List.setIfInBounds_toArray, List.set_cons_zero, List.set_cons_succ]
          refine wpAnyH_take (i := 5) (oi := { dst := some 96, op := Op.load 33 (Operand.tmp 95), type := 33, pos := "law.go:55", after := #[{ on := 4, ground := Ground.data }], guard := none }) (v := ?vb22) rfl (by kernel_rfl) (by kernel_rfl) (by kernel_rfl) (fun _ _ _ h => h) (Or.inl ⟨by rfl, ?yb22⟩) hS ?_
          case yb22 =>
            intro w hSw
            obtain ⟨j0, j1, j2, j3, j4, _, _, _⟩ := hSw
            go_simp; all_goals (with_reducible rfl)
          simp only [Act.put, List.setIfInBounds_toArray, List.set_cons_zero, List.set_cons_succ]
          refine wpAnyH_take (i := 6) (oi := { dst := some 97, op := Op.move (Operand.tmp 1), type := 23, pos := "law.go:55", after := #[], guard := none }) (v := ?vb23) rfl (by kernel_rfl) (by kernel_rfl) (by kernel_rfl) (fun _ _ _ h => h) (Or.inl ⟨by rfl, ?yb23⟩) hS ?_
          case yb23 =>
            intro w hSw
            go_simp; all_goals (with_reducible rfl)
          simp only [Act.put, List.setIfInBounds_toArray, List.set_cons_zero, List.set_cons_succ]
          refine wpAnyH_take (i := 7) (oi := { dst := some 98, op := Op.move (Operand.tmp 9), type := 3, pos := "law.go:55", after := #[], guard := none }) (v := ?vb24) rfl (by kernel_rfl) (by kernel_rfl) (by kernel_rfl) (fun _ _ _ h => h) (Or.inl ⟨by rfl, ?yb24⟩) hS ?_
          case yb24 =>
            intro w hSw
            go_simp; all_goals (with_reducible rfl)
          simp only [Act.put, List.setIfInBounds_toArray, List.set_cons_zero, List.set_cons_succ]
          refine wpAnyH_take (i := 8) (oi := { dst := some 99, op := Op.indexAddr 23 (Operand.tmp 97) (Operand.tmp 98), type := 0, pos := "law.go:55", after := #[{ on := 6, ground := Ground.data }, { on := 7, ground := Ground.data }], guard := none }) (v := ?vb25) rfl (by kernel_rfl) (by kernel_rfl) (by kernel_rfl) (fun _ _ _ h => h) (Or.inl ⟨by rfl, ?yb25⟩) hS ?_
          case yb25 =>
            intro w hSw
            go_simp; all_goals (with_reducible rfl)
          simp only [Act.put, List.setIfInBounds_toArray, List.set_cons_zero, List.set_cons_succ]
          refine wpAnyH_take (i := 9) (oi := { dst := some 100, op := Op.fieldAddr 35 (Operand.tmp 99) 4, type := 0, pos := "law.go:55", after := #[{ on := 8, ground := Ground.data }], guard := none }) (v := ?vb26) rfl (by kernel_rfl) (by kernel_rfl) (by kernel_rfl) (fun _ _ _ h => h) (Or.inl ⟨by rfl, ?yb26⟩) hS ?_
          case yb26 =>
            intro w hSw
            go_simp; all_goals (with_reducible rfl)
          simp only [Act.put, List.setIfInBounds_toArray, List.set_cons_zero, List.set_cons_succ]
          refine wpAnyH_take (i := 10) (oi := { dst := some 101, op := Op.load 3 (Operand.tmp 100), type := 3, pos := "law.go:55", after := #[{ on := 9, ground := Ground.data }], guard := none }) (v := ?vb27) rfl (by kernel_rfl) (by kernel_rfl) (by kernel_rfl) (fun _ _ _ h => h) (Or.inl ⟨by rfl, ?yb27⟩) hS ?_
          case yb27 =>
            intro w hSw
            obtain ⟨j0, j1, j2, j3, j4, _, _, _⟩ := hSw
            go_simp; all_goals (with_reducible rfl)
          simp only [Act.put, List.setIfInBounds_toArray, List.set_cons_zero, List.set_cons_succ]
          refine wpAnyH_take (i := 12) (oi := { dst := some 103, op := Op.move (Operand.tmp 7), type := 29, pos := "law.go:55", after := #[], guard := none }) (v := ?vb28) rfl (by kernel_rfl) (by kernel_rfl) (by kernel_rfl) (fun _ _ _ h => h) (Or.inl ⟨by rfl, ?yb28⟩) hS ?_
          case yb28 =>
            intro w hSw
            go_simp; all_goals (with_reducible rfl)
          simp only [Act.put, List.setIfInBounds_toArray, List.set_cons_zero, List.set_cons_succ]
          refine wpAnyH_take (i := 13) (oi := { dst := some 104, op := Op.move (Operand.tmp 1), type := 23, pos := "law.go:55", after := #[], guard := none }) (v := ?vb29) rfl (by kernel_rfl) (by kernel_rfl) (by kernel_rfl) (fun _ _ _ h => h) (Or.inl ⟨by rfl, ?yb29⟩) hS ?_
          case yb29 =>
            intro w hSw
            go_simp; all_goals (with_reducible rfl)
          simp only [Act.put, List.setIfInBounds_toArray, List.set_cons_zero, List.set_cons_succ]
          refine wpAnyH_take (i := 14) (oi := { dst := some 105, op := Op.move (Operand.tmp 9), type := 3, pos := "law.go:55", after := #[], guard := none }) (v := ?vb30) rfl (by kernel_rfl) (by kernel_rfl) (by kernel_rfl) (fun _ _ _ h => h) (Or.inl ⟨by rfl, ?yb30⟩) hS ?_
          case yb30 =>
            intro w hSw
            go_simp; all_goals (with_reducible rfl)
          simp only [Act.put, List.setIfInBounds_toArray, List.set_cons_zero, List.set_cons_succ]
          refine wpAnyH_take (i := 15) (oi := { dst := some 106, op := Op.indexAddr 23 (Operand.tmp 104) (Operand.tmp 105), type := 0, pos := "law.go:55", after := #[{ on := 13, ground := Ground.data }, { on := 14, ground := Ground.data }], guard := none }) (v := ?vb31) rfl (by kernel_rfl) (by kernel_rfl) (by kernel_rfl) (fun _ _ _ h => h) (Or.inl ⟨by rfl, ?yb31⟩) hS ?_
          case yb31 =>
            intro w hSw
            go_simp; all_goals (with_reducible rfl)
          simp only [Act.put, List.setIfInBounds_toArray, List.set_cons_zero, List.set_cons_succ]
          refine wpAnyH_take (i := 16) (oi := { dst := some 107, op := Op.fieldAddr 35 (Operand.tmp 106) 4, type := 0, pos := "law.go:55", after := #[{ on := 15, ground := Ground.data }], guard := none }) (v := ?vb32) rfl (by kernel_rfl) (by kernel_rfl) (by kernel_rfl) (fun _ _ _ h => h) (Or.inl ⟨by rfl, ?yb32⟩) hS ?_
          case yb32 =>
            intro w hSw
            go_simp; all_goals (with_reducible rfl)
          simp only [Act.put, List.setIfInBounds_toArray, List.set_cons_zero, List.set_cons_succ]
          refine wpAnyH_take (i := 17) (oi := { dst := some 108, op := Op.load 3 (Operand.tmp 107), type := 3, pos := "law.go:55", after := #[{ on := 16, ground := Ground.data }], guard := none }) (v := ?vb33) rfl (by kernel_rfl) (by kernel_rfl) (by kernel_rfl) (fun _ _ _ h => h) (Or.inl ⟨by rfl, ?yb33⟩) hS ?_
          case yb33 =>
            intro w hSw
            obtain ⟨j0, j1, j2, j3, j4, _, _, _⟩ := hSw
            go_simp; all_goals (with_reducible rfl)
          simp only [Act.put, List.setIfInBounds_toArray, List.set_cons_zero, List.set_cons_succ]
          refine wpAnyH_ready (rs := [11]) (by kernel_rfl) (by simp) ?_
          refine (AllReadyH.cons (o := { dst := some 102, op := Op.call { callee := Callee.value (Operand.func 10), args := #[Operand.tmp 91, Operand.tmp 96, Operand.tmp 101], argTypes := #[25, 33, 3] }, type := 33, pos := "law.go:55", after := #[{ on := 0, ground := Ground.data }, { on := 5, ground := Ground.data }, { on := 10, ground := Ground.data }], guard := none }) rfl (fun K hK => ?_) AllReadyH.nil)
          go_simp
          refine (HP.out _ (hD.below (drew_below _))).mono ?_
          rintro e w3 ⟨rfl, hD3, hon3⟩
          have hd3 := hd1.only hon3 (by simp; omega) hbl
          go_wp2_with fail
          refine hK.out _ _ hd3 (fun _ => ?_)
          clear hK K
          refine wpAnyH_ready (rs := [18]) (by kernel_rfl) (by simp) ?_
          refine (AllReadyH.cons (o := { dst := some 109, op := Op.call { callee := Callee.value (Operand.func 12), args := #[Operand.tmp 108], argTypes := #[3] }, type := 3, pos := "law.go:55", after := #[{ on := 17, ground := Ground.data }, { on := 11, ground := Ground.chain }], guard := none }) rfl (fun K hK => ?_) AllReadyH.nil)
          go_simp
          refine (bits_any d.n _).mono ?_
          rintro e w' ⟨rfl, rfl⟩
          rw [HM.out]
          go_wp2_with fail
          refine hK.out _ _ hd3 (fun _ => ?_)
          clear hK K
          refine wpAnyH_ready (rs := [19]) (by kernel_rfl) (by simp) ?_
          refine (AllReadyH.cons (o := { dst := some 110, op := Op.call { callee := Callee.value (Operand.func 11), args := #[Operand.tmp 103, Operand.tmp 109], argTypes := #[29, 3] }, type := 33, pos := "law.go:55", after := #[{ on := 12, ground := Ground.data }, { on := 18, ground := Ground.data }, { on := 18, ground := Ground.chain }], guard := none }) rfl (fun K hK => ?_) AllReadyH.nil)
          go_simp
          have hR3 := hR.only1 hon3.undrew hgh (by omega)
          refine (HRP.out _ hR3).mono ?_
          rintro e w4 ⟨rfl, hR4, hon4⟩
          have hd4 := hd3.only hon4 (by simp; omega) (by have := hon3.size; exact Nat.lt_of_lt_of_le hbl this)
          go_wp2_with fail
          refine hK.out _ _ hd4 (fun _ => ?_)
          clear hK K
          refine wpAnyH_take (i := 20) (oi := { dst := some 111, op := Op.binOp BinOp.neq 33 (Operand.tmp 102) (Operand.tmp 110) 33, type := 4, pos := "law.go:55", after := #[{ on := 11, ground := Ground.data }, { on := 19, ground := Ground.data }], guard := none }) (v := ?vb34) rfl (by kernel_rfl) (by kernel_rfl) (by kernel_rfl) (fun _ _ _ h => h) (Or.inl ⟨by rfl, ?yb34⟩) hd4 ?_
          case yb34 =>
            intro w hSw
            go_simp; all_goals (with_reducible rfl)
          simp only [Act.put, List.setIfInBounds_toArray, List.set_cons_zero, List.set_cons_succ]
          refine wpAnyH_done (by kernel_rfl) ?_ _
          go_wp2_with fail
          go_meet
          have b1 := hbel.trans (hon3.undrew.below hbel.size (by intro i hi; simp at hi; omega))
          exact ⟨s', hD3.only1 hon4 hgh hoh, hR4, hok', b1.trans (hon4.below b1.size (by intro i hi; simp at hi; omega))⟩
      case rest =>
        clear hD hR hok hbel hd0 e0 hbl
        obtain ⟨s, hD, hR, hok, hbel⟩ := hcut
        have hdr : Below wc.heap.size wc wc.drew := drew_below _
        obtain ⟨hhl, kh4⟩ : h < wc.heap.size ∧ wc.cell? ⟨h, 4, none⟩ = some (.bool s.out) := by
          obtain ⟨x, y, _, hT⟩ := hR; exact ⟨hT.hlt, c54 hT.blk⟩
        generalize hso : s.out = so at *
        have HSO := Lib.hid hso
        clear hso
        go_wp2_with fail
        refine wp_region_held_drew (S := fun w' => Below wc.heap.size wc w') (by kernel_rfl) hdr (fun hS => ?_)
        refine wpAnyH_take (i := 0) (oi := { dst := some 112, op := Op.move (Operand.tmp 5), type := 25, pos := "law.go:58", after := #[], guard := none }) (v := ?vc35) rfl (by kernel_rfl) (by kernel_rfl) (by kernel_rfl) (fun _ _ _ h => h) (Or.inl ⟨by rfl, ?yc35⟩) hS ?_
        case yc35 =>
          intro w hSw
          go_simp; all_goals (with_reducible rfl)
        simp only [Act.put, List.setIfInBounds_toArray, List.set_cons_zero, List.set_cons_succ]
        refine wpAnyH_take (i := 2) (oi := { dst := some 114, op := Op.move (Operand.tmp 7), type := 29, pos := "law.go:58", after := #[], guard := none }) (v := ?vc36) rfl (by kernel_rfl) (by kernel_rfl) (by kernel_rfl) (fun _ _ _ h => h) (Or.inl ⟨by rfl, ?yc36⟩) hS ?_
        case yc36 =>
          intro w hSw
          go_simp; all_goals (with_reducible rfl)
        simp only [Act.put, List.setIfInBounds_toArray, List.set_cons_zero, List.set_cons_succ]
        refine wpAnyH_take (i := 3) (oi := { dst := some 115, op := Op.nilCheck (Operand.tmp 114), type := 0, pos := "law.go:58", after := #[{ on := 2, ground := Ground.data }], guard := none }) (v := ?vc37) rfl (by kernel_rfl) (by kernel_rfl) (by kernel_rfl) (fun _ _ _ h => h) (Or.inl ⟨by rfl, ?yc37⟩) hS ?_
        case yc37 =>
          intro w hSw
          go_simp; all_goals (with_reducible rfl)
        simp only [Act.put, List.setIfInBounds_toArray, List.set_cons_zero, List.set_cons_succ]
        refine wpAnyH_take (i := 4) (oi := { dst := some 116, op := Op.fieldAddr 44 (Operand.tmp 115) 4, type := 0, pos := "law.go:58", after := #[{ on := 3, ground := Ground.data }], guard := none }) (v := ?vc38) rfl (by kernel_rfl) (by kernel_rfl) (by kernel_rfl) (fun _ _ _ h => h) (Or.inl ⟨by rfl, ?yc38⟩) hS ?_
        case yc38 =>
          intro w hSw
          go_simp; all_goals (with_reducible rfl)
        simp only [Act.put, List.setIfInBounds_toArray, List.set_cons_zero, List.set_cons_succ]
        refine wpAnyH_take (i := 5) (oi := { dst := some 117, op := Op.load 4 (Operand.tmp 116), type := 4, pos := "law.go:58", after := #[{ on := 4, ground := Ground.data }], guard := none }) (v := ?vc39) rfl (by kernel_rfl) (by kernel_rfl) (by kernel_rfl) (fun _ _ _ h => h) (Or.inl ⟨by rfl, ?yc39⟩) hS ?_
        case yc39 =>
          intro w hSw
          have j4 := (hSw.cell (p := ⟨h, 4, none⟩) hhl).trans kh4
          go_simp; all_goals (with_reducible rfl)
        simp only [Act.put, List.setIfInBounds_toArray, List.set_cons_zero, List.set_cons_succ]
        refine wpAnyH_ready (rs := [1]) (by kernel_rfl) (by simp) ?_
        refine (AllReadyH.cons (o := { dst := some 113, op := Op.call { callee := Callee.value (Operand.func 13), args := #[Operand.tmp 112], argTypes := #[25] }, type := 4, pos := "law.go:58", after := #[{ on := 0, ground := Ground.data }], guard := none }) rfl (fun K hK => ?_) AllReadyH.nil)
        go_simp
        refine (out_any g o cap l s _ (hD.below (drew_below _))).mono ?_
        rintro e w2 ⟨rfl, rfl⟩; rw [HSO.out]
        go_wp2_with fail
        refine hK.out _ _ hdr (fun _ => ?_)
        clear hK K
        refine wpAnyH_take (i := 6) (oi := { dst := some 118, op := Op.binOp BinOp.neq 4 (Operand.tmp 113) (Operand.tmp 117) 4, type := 4, pos := "law.go:58", after := #[{ on := 1, ground := Ground.data }, { on := 5, ground := Ground.data }], guard := none }) (v := ?vc40) rfl (by kernel_rfl) (by kernel_rfl) (by kernel_rfl) (fun _ _ _ h => h) (Or.inl ⟨by rfl, ?yc40⟩) hdr ?_
        case yc40 =>
          intro w hSw
          go_simp; all_goals (with_reducible rfl)
        simp only [Act.put, List.setIfInBounds_toArray, List.set_cons_zero, List.set_cons_succ]
        refine wpAnyH_take (i := 7) (oi := { dst := some 119, op := Op.move (Operand.tmp 118), type := 4, pos := "law.go:58", after := #[{ on := 6, ground := Ground.data }, { on := 1, ground := Ground.chain }], guard := none }) (v := ?vc41) rfl (by kernel_rfl) (by kernel_rfl) (by kernel_rfl) (fun _ _ _ h => h) (Or.inl ⟨by rfl, ?yc41⟩) hdr ?_
        case yc41 =>
          intro w hSw
          go_simp; all_goals (with_reducible rfl)
        simp only [Act.put, List.setIfInBounds_toArray, List.set_cons_zero, List.set_cons_succ]
        refine wpAnyH_take (i := 8) (oi := { dst := some 120, op := Op.move (Operand.tmp 5), type := 25, pos := "law.go:58", after := #[{ on := 7, ground := Ground.guard }], guard := some (7, false) }) (v := ?vc42) rfl (by kernel_rfl) (by kernel_rfl) (by kernel_rfl) (fun _ _ _ h => h) (Or.inl ⟨by rfl, ?yc42⟩) hdr ?_
        case yc42 =>
          intro w hSw
          go_simp; all_goals (with_reducible rfl)
        simp only [Act.put, List.setIfInBounds_toArray, List.set_cons_zero, List.set_cons_succ]
        refine wpAnyH_take (i := 10) (oi := { dst := some 122, op := Op.move (Operand.tmp 7), type := 29, pos := "law.go:58", after := #[{ on := 7, ground := Ground.guard }], guard := some (7, false) }) (v := ?vc43) rfl (by kernel_rfl) (by kernel_rfl) (by kernel_rfl) (fun _ _ _ h => h) (Or.inl ⟨by rfl, ?yc43⟩) hdr ?_
        case yc43 =>
          intro w hSw
          go_simp; all_goals (with_reducible rfl)
        simp only [Act.put, List.setIfInBounds_toArray, List.set_cons_zero, List.set_cons_succ]
        refine wpAnyH_ready (rs := [9]) (by kernel_rfl) (by simp) ?_
        refine (AllReadyH.cons (o := { dst := some 121, op := Op.call { callee := Callee.value (Operand.func 14), args := #[Operand.tmp 120], argTypes := #[25] }, type := 4, pos := "law.go:58", after := #[{ on := 8, ground := Ground.data }, { on := 7, ground := Ground.chain }, { on := 7, ground := Ground.guard }], guard := some (7, false) }) rfl (fun K hK => ?_) AllReadyH.nil)
        go_simp
        refine (done_any g o cap l s _ (hD.below (drew_below _))).mono ?_
        rintro e w5 ⟨rfl, hb5⟩
        have g5 := hdr.trans hb5
        go_wp2_with fail
        refine hK.out _ _ g5 (fun _ => ?_)
        clear hK K
        refine wpAnyH_ready (rs := [11]) (by kernel_rfl) (by simp) ?_
        refine (AllReadyH.cons (o := { dst := some 123, op := Op.call { callee := Callee.value (Operand.func 15), args := #[Operand.tmp 122], argTypes := #[29] }, type := 4, pos := "law.go:58", after := #[{ on := 10, ground := Ground.data }, { on := 9, ground := Ground.chain }, { on := 7, ground := Ground.guard }], guard := some (7, false) }) rfl (fun K hK => ?_) AllReadyH.nil)
        go_simp
        refine (rddone_any h b off cc l s _ (hR.below g5)).mono ?_
        rintro e w6 ⟨rfl, hb6⟩
        have g6 : Below wc.heap.size wc w6 := g5.trans (hb6.mono g5.size)
        go_wp2_with fail
        refine hK.out _ _ g6 (fun _ => ?_)
        clear hK K
        refine wpAnyH_take (i := 12) (oi := { dst := some 124, op := Op.binOp BinOp.neq 4 (Operand.tmp 121) (Operand.tmp 123) 4, type := 4, pos := "law.go:58", after := #[{ on := 9, ground := Ground.data }, { on := 11, ground := Ground.data }, { on := 7, ground := Ground.guard }], guard := some (7, false) }) (v := ?vc44) rfl (by kernel_rfl) (by kernel_rfl) (by kernel_rfl) (fun _ _ _ h => h) (Or.inl ⟨by rfl, ?yc44⟩) g6 ?_
        case yc44 =>
          intro w hSw
          go_simp; all_goals (with_reducible rfl)
        simp only [Act.put, List.setIfInBounds_toArray, List.set_cons_zero, List.set_cons_succ]
        refine wpAnyH_take (i := 13) (oi := { dst := some 125, op := Op.pick (Operand.tmp 119) (Operand.const (Value.bool true)) (Operand.tmp 124), type := 4, pos := "law.go:58", after := #[{ on := 7, ground := Ground.data }, { on := 12, ground := Ground.data }], guard := none }) (v := ?vc45) rfl (by kernel_rfl) (by kernel_rfl) (by kernel_rfl) (fun _ _ _ h => h) (Or.inl ⟨by rfl, ?yc45⟩) g6 ?_
        case yc45 =>
          intro w hSw
          go_simp; all_goals (with_reducible rfl)
        simp only [Act.put, List.setIfInBounds_toArray, List.set_cons_zero, List.set_cons_succ]
        refine wpAnyH_done (by kernel_rfl) ?_ _
        go_wp2_with fail
        go_roundw
        case rel => exact ⟨t + 1, by omega, congrArg (Value.int .i64) (by omega), s, hD.below g6, hR.below g6, hok, hbel.trans (g6.mono hbel.size)⟩
        case measure => simp [intOf] <;> omega
    · have hlt' : ¬ (t : Int) < len := by omega
      go_wp2_with fail
      refine (done_any g o cap l s _ hD).mono ?_
      rintro e w5 ⟨rfl, hb5⟩
      go_wp2_with fail
      refine (rddone_any h b off cc l s _ (hR.below hb5)).mono ?_
      rintro e w6 ⟨rfl, hb6⟩
      go_wp2_with fail
      refine (dknows_any _).mono ?_
      rintro e w7 ⟨rfl, hb7⟩
      go_wp2_with fail
      go_ret
      have b5 := hbel.trans (hb5.mono hbel.size)
      have b6 := b5.trans (hb6.mono b5.size)
      exact ⟨rfl, b6.trans (hb7.mono b6.size)⟩
end Go.Proofs.Ytaacfdlnoeiojaa
