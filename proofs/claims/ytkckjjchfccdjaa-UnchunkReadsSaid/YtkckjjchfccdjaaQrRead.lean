/- The reference's Reader: Read. -/
import Derived.Test.YtkckjjchfccdjaaMg1
import Derived.Test.YtkckjjchfccdjaaMg25
import Derived.Test.YtkckjjchfccdjaaUmRead
import Derived.Test.YtkckjjchfccdjaaMg13
namespace Go.Proofs.Ytkckjjchfccdjaa
set_option maxRecDepth 100000
open Go.RowKit

def RdrDone (R C base h b off cc N : Nat) (L : List UInt8) (lc lp pb : Nat) (Y : List Nat) (n0 : Nat) (res : Option (List UInt8 × Nat × R4 × PD)) (w : World) (e : Ending) (w' : World) : Prop :=
  match res with
  | none => e = .returned (.tuple #[.slice none 0 0, .bool false]) ∧ Only Y w w'
  | some (T, st, r, y) => ∃ A c, e = .returned (.tuple #[.slice A (T.length - n0) c, .bool true]) ∧ T.length - n0 ≤ c ∧ c ≤ 9223372036854775807 ∧ Bytes w' A (T.drop n0) ∧ ∃ Y', RD w' R C base h b off cc N L (lc : Nat) (lp : Nat) (pb : Nat) (st : Nat) r y Y' ∧ Only Y w w'
theorem Only.sub {X Y : List Nat} {w a b : World} (h : Only X w a) (k : Only Y a b) (hs : ∀ i ∈ Y, i ∈ X ∨ w.heap.size ≤ i) : Only X w b := h.trans k hs
set_option maxRecDepth 100000 in
set_option maxHeartbeats 8000000 in
theorem qread_big {gd o cap R C base h b off cc N lc lp pb : Nat} {L : List UInt8} {r0 : R4} {y0 : PD} {Y : List Nat} {w : World} {st0 : Nat} (hM : RD w R C base h b off cc N L (lc : Nat) (lp : Nat) (pb : Nat) (st0 : Nat) r0 y0 Y) (hok : (decIo gd o cap L).ok y0.2 0) (hlc : lc ≤ 4) (hlp : lp ≤ 4) (hpb : pb ≤ 4) (hst : st0 < 12) (hr : rGood r0)
    (A : Option Addr) (H : List UInt8) (c : Nat) (hB : Bytes w A H) (hc : H.length ≤ c) (hH : H.length ≤ 500000000) (many : Nat) (hmany : many ≤ 500000000) (hN : N = 2180 + 768 * 2 ^ (lc + lp)) (hN2 : N ≤ 1000000) (dict : Int) (hd1 : 1 ≤ dict) {RES : Option (List UInt8 × Nat × R4 × PD)} (hres : uread gd o cap L lc lp pb dict (H.length + many) many H st0 r0 y0 = RES) :
    Calls Try.prog 25 #[PF R, .slice A H.length c, .int .i64 (many : Nat), .int .i64 dict] w (fun e w' => RdrDone R C base h b off cc N L lc lp pb Y H.length RES w e w' ∧ UmFine RES) := by
  have HNE := Lib.hid hN
  have HM0 := Lib.hid hM
  have HPAR := Lib.hid (And.intro hlc (And.intro hlp hpb))
  have HST0 := Lib.hid (And.intro hst (And.intro hr hok))
  have hHi : (H.length : Int) ≤ 500000000 := by omega
  have hci : (H.length : Int) ≤ (c : Int) := by omega
  have hmi : (many : Int) ≤ 500000000 := by omega
  obtain ⟨F, hF⟩ : ∃ F, H.length + many = F := ⟨_, rfl⟩
  have hFi : (H.length : Int) + (many : Int) = (F : Int) := by omega
  have hFb : (F : Int) ≤ 1000000000 := by omega
  rw [hF] at hres
  have HRES := Lib.hid hres
  have HF := Lib.hid hF
  obtain ⟨W2, hW2⟩ : ∃ W2, w.alloc (.cells #[] 5) = W2 := ⟨_, rfl⟩
  have hb2 : Below w.heap.size w W2 := by rw [← hW2]; exact (Below.refl _ _).alloc (Nat.le_refl _) _
  have ho2 : Own w.heap.size W2 (.slice (some ⟨w.heap.size, 0, none⟩) 0 0) [] := by rw [← hW2]; exact empty_own w
  have HW2 := Lib.hid hW2
  have HB2 := Lib.hid hb2
  have HO2 := Lib.hid ho2
  have HBY := Lib.hid (hB.below hb2)
  have HHL := Lib.hid hH
  clear hN hM hlc hlp hpb hst hr hok hres hF hW2 hb2 ho2 hB hc hH
  go_enter Try.func25, Try.ntmps25
  go_upto_region 2 with (at_builtin; rw [HW2.out]; refine wpList_append_bytes rfl (.tmp 15) (.tmp 16) rfl w.heap.size W2 _ [] rfl HO2.out A H c rfl HBY.out (by have := HHL.out; simp; omega) HB2.out.size ?_; intro v1 w3 ho3 hg3; have HO3 := Lib.hid (show Own w.heap.size w3 v1 H from ho3); have HB3 := Lib.hid (below_grown HB2.out hg3 HB2.out.size (fun g e => (HO2.out.from_base g e).1)); clear ho3 hg3)
  go_wp2_with fail
  go_loopg [10] many (fun gk v wr => ∃ (T : List UInt8) (st : Nat) (r : R4) (y : PD) (Y' : List Nat) (vv : Value), vv = v ∧ H.length ≤ T.length ∧ T.length ≤ F ∧ F ≤ T.length + gk ∧ Hid (Own w.heap.size wr vv T) ∧ Hid (uread gd o cap L lc lp pb dict F gk T st r y = RES) ∧ Hid (RD wr R C base h b off cc N L (lc : Nat) (lp : Nat) (pb : Nat) (st : Nat) r y Y') ∧ Hid (st < 12 ∧ rGood r ∧ (decIo gd o cap L).ok y.2 0) ∧ Hid (Only Y w wr ∧ ∀ i ∈ Y', i ∈ Y ∨ w.heap.size ≤ i))
  case atStart => exact ⟨H, st0, r0, y0, Y, _, rfl, Nat.le_refl _, by have := HF.out; omega, by have := HF.out; omega, HO3, HRES, Lib.hid (HM0.out.below HB3.out), HST0, Lib.hid ⟨Only.of_below HB3.out, fun i hi => .inl hi⟩⟩
  case round =>
    obtain ⟨T, st, r, y, Y', v, rfl, hT1, hT2, hT3, HO, HU, HM, HST, HON⟩ := hrel
    obtain ⟨AT, cT, rfl, hcT, hmT, hBT⟩ := HO.out.read
    have hTi : (T.length : Int) ≤ 1000000000 := by omega
    have hcTi : (T.length : Int) ≤ (cT : Int) := by omega
    have HTB := Lib.hid (And.intro hT1 (And.intro hT2 hT3))
    have hsz := HON.out.1.size
    by_cases hend : T.length < F
    · have hendi : (T.length : Int) < (F : Int) := by omega
      cases gk with
      | zero => omega
      | succ gk =>
        obtain ⟨⟨s, st', r', y'⟩, ht⟩ : ∃ t, Md.sym (decIo gd o cap L) lc lp pb st r T 0 0 0 0 0 y = t := ⟨_, rfl⟩
        obtain ⟨hra, hsa, hda, hla⟩ := sym_after (decIo gd o cap L) lc lp pb st r T 0 0 0 0 0 y ht
        have hk := qsym_any HM.out HST.out.2.2 HPAR.out.1 HPAR.out.2.1 HPAR.out.2.2 HST.out.1 HST.out.2.1.1.1 HST.out.2.1.2.1 AT T cT hBT hcT (by omega) (fun a e => by
          obtain ⟨cs, hcs⟩ := HO.out.row (g := a.block) (by rw [e]; rfl)
          exact HM.out.apart hcs) HNE.out hN2 0 0 0 0 0 ht
        have HKD := Lib.hid hk
        have HTS := Lib.hid ht
        have HAF := Lib.hid (And.intro hra (And.intro hsa (And.intro hda hla)))
        have HEND := Lib.hid hend
        clear hk ht hBT hcT hmT hra hsa hda hla hend
        go_wp2_with fail
        refine HKD.out.mono ?_
        rintro e w5 ⟨⟨rfl, hM5, hon5⟩, ok5, hk2, hr3, hl273, hd5, hd51⟩
        have hO5 : Own w.heap.size w5 (.slice AT T.length cT) T := HO.out.keepB fun g e => by
          have h1 := HO.out.from_base g e
          obtain ⟨cs, hcs⟩ := HO.out.row e
          exact hon5.block g h1.2 (HM.out.apart hcs)
        have HON5 : Hid (Only Y w w5) := Lib.hid (HON.out.1.sub hon5 HON.out.2)
        obtain ⟨W6, hW6⟩ : ∃ W, w5.alloc (.cells #[.int .i64 (s.k : Nat), .int .u8 (s.b.toNat : Nat), .int .i64 (s.l : Nat), .int .i64 (s.d : Nat), .int .i64 (s.r : Nat)] 99) = W := ⟨_, rfl⟩
        have hbox : W6.heap[w5.heap.size]? = some (.cells [Value.int .i64 (s.k : Nat), .int .u8 (s.b.toNat : Nat), .int .i64 (s.l : Nat), .int .i64 (s.d : Nat), .int .i64 (s.r : Nat)].toArray 99 (0, 0)) := by rw [← hW6]; exact heap_alloc_last _ _
        obtain ⟨z0, z1, z2, z3, z4, hb6⟩ := sy_box hW6
        have hlt6 := block_lt_of_cell z0
        obtain ⟨bx, hbx⟩ : ∃ bx, w5.heap.size = bx := ⟨_, rfl⟩
        have HB6 : Hid (Below w.heap.size w5 W6) := Lib.hid (hb6.mono HON5.out.size)
        have hM6 := hM5.below hb6
        have HO6 : Hid (Own w.heap.size W6 (.slice AT T.length cT) T) := Lib.hid (hO5.below hb6)
        have HON6 : Hid (Only Y w W6) := Lib.hid (HON5.out.fresh HB6.out)
        have HBXW : Hid (w.heap.size ≤ bx) := Lib.hid (by rw [← hbx]; exact HON5.out.size)
        rw [hbx] at z0 z1 z2 z3 z4 hlt6 hbox
        have HBX := Lib.hid hbx
        have HBOX := Lib.hid hbox
        have HW6 := Lib.hid hW6
        have HOK5 := Lib.hid ok5
        have HK2 := Lib.hid (And.intro hk2 (And.intro hr3 (And.intro hl273 (And.intro hd5 hd51))))
        have hr6 : W6.cell? ⟨R, 1, none⟩ = some (PF C) := by rw [cell_of_row W6 _ _ _ _ _ hM6.rbox]; rfl
        have hr60 : W6.cell? ⟨R, 0, none⟩ = some (PF h) := by rw [cell_of_row W6 _ _ _ _ _ hM6.rbox]; rfl
        have hou := hM6.outCell
        have HM6 := Lib.hid hM6
        have hRl := hM6.lt.2.1
        clear hM5 hon5 ok5 hk2 hr3 hl273 hd5 hd51 hO5 hW6 hb6 HKD HM HO hbx hM6 hbox
        go_upto_region 5 with fail
        rw [HW6.out, HBX.out]
        cases hout : y'.2.out with
        | true =>
          have hres : RES = none := by rw [← HU.out]; exact uread_out HEND.out HTS.out hout
          rw [hout] at hou
          have HRN := Lib.hid hres
          clear hres hout
          go_wp2_with fail
          go_ret2
          rw [HRN.out]
          exact ⟨⟨rfl, HON6.out⟩, .none⟩
        | false =>
          rw [hout] at hou
          have HOF := Lib.hid hout
          clear hout
          go_upto_region 7 with fail
          clear hou hr60
          have hS6 : W6.drew.cell? ⟨R, 1, none⟩ = some (PF C) ∧ W6.drew.cell? ⟨bx, 0, none⟩ = some (.int .i64 (s.k : Nat)) ∧ W6.drew.cell? ⟨bx, 1, none⟩ = some (.int .u8 (s.b.toNat : Nat)) ∧ W6.drew.cell? ⟨bx, 2, none⟩ = some (.int .i64 (s.l : Nat)) ∧ W6.drew.cell? ⟨bx, 3, none⟩ = some (.int .i64 (s.d : Nat)) ∧ W6.drew.cell? ⟨bx, 4, none⟩ = some (.int .i64 (s.r : Nat)) := ⟨hr6, z0, z1, z2, z3, z4⟩
          have HKB : Hid (∀ w2, Below W6.drew.heap.size W6.drew w2 → w2.cell? ⟨R, 1, none⟩ = some (PF C) ∧ w2.cell? ⟨bx, 0, none⟩ = some (.int .i64 (s.k : Nat)) ∧ w2.cell? ⟨bx, 1, none⟩ = some (.int .u8 (s.b.toNat : Nat)) ∧ w2.cell? ⟨bx, 2, none⟩ = some (.int .i64 (s.l : Nat)) ∧ w2.cell? ⟨bx, 3, none⟩ = some (.int .i64 (s.d : Nat)) ∧ w2.cell? ⟨bx, 4, none⟩ = some (.int .i64 (s.r : Nat))) := Lib.hid (fun w2 hb =>
            ⟨(hb.cell (p := ⟨R, 1, none⟩) hRl).trans hr6, (hb.cell (p := ⟨bx, 0, none⟩) hlt6).trans z0, (hb.cell (p := ⟨bx, 1, none⟩) hlt6).trans z1, (hb.cell (p := ⟨bx, 2, none⟩) hlt6).trans z2, (hb.cell (p := ⟨bx, 3, none⟩) hlt6).trans z3, (hb.cell (p := ⟨bx, 4, none⟩) hlt6).trans z4⟩)
          obtain ⟨Pl, vR, vP, hC6, _, _⟩ := (HM6.out.drewN 1).bec
          have HDI := Lib.hid (dist_any C base (lc : Nat) (lp : Nat) (pb : Nat) (st : Nat) r Pl vR vP (s.k : Nat) s.b (s.l : Nat) (s.d : Nat) (s.r : Nat) W6.drew hC6 (fun _ => ⟨by omega, by have := HK2.out.2.1; omega⟩))
          obtain ⟨BK, hBK⟩ : ∃ BK, distZ r (s.k : Nat) (s.d : Nat) (s.r : Nat) = BK := ⟨_, rfl⟩
          rw [hBK] at HDI
          have HBK := Lib.hid hBK
          clear hBK hC6 hr6 z0 z1 z2 z3 z4
          refine wp_region_held_drew (S := fun w2 => w2.cell? ⟨R, 1, none⟩ = some (PF C) ∧ w2.cell? ⟨bx, 0, none⟩ = some (.int .i64 (s.k : Nat)) ∧ w2.cell? ⟨bx, 1, none⟩ = some (.int .u8 (s.b.toNat : Nat)) ∧ w2.cell? ⟨bx, 2, none⟩ = some (.int .i64 (s.l : Nat)) ∧ w2.cell? ⟨bx, 3, none⟩ = some (.int .i64 (s.d : Nat)) ∧ w2.cell? ⟨bx, 4, none⟩ = some (.int .i64 (s.r : Nat))) (by kernel_rfl) hS6 (fun hS => ?_)
          refine tk 0 (v := ?vq71) ?yq71 hS ?_
          case yq71 =>
            intro w hSw
            go_simp; all_goals (with_reducible rfl)
          simp only [Act.put, List.setIfInBounds_toArray, List.set_cons_zero, List.set_cons_succ]
          refine tk 1 (v := ?vq72) ?yq72 hS ?_
          case yq72 =>
            intro w hSw
            go_simp; all_goals (with_reducible rfl)
          simp only [Act.put, List.setIfInBounds_toArray, List.set_cons_zero, List.set_cons_succ]
          refine tk 2 (v := ?vq73) ?yq73 hS ?_
          case yq73 =>
            intro w hSw
            go_simp; all_goals (with_reducible rfl)
          simp only [Act.put, List.setIfInBounds_toArray, List.set_cons_zero, List.set_cons_succ]
          refine tk 3 (v := ?vq74) ?yq74 hS ?_
          case yq74 =>
            intro w hSw
            obtain ⟨q0, q1, q2, q3, q4, q5⟩ := hSw
            go_simp; all_goals (with_reducible rfl)
          simp only [Act.put, List.setIfInBounds_toArray, List.set_cons_zero, List.set_cons_succ]
          refine tk 4 (v := ?vq75) ?yq75 hS ?_
          case yq75 =>
            intro w hSw
            obtain ⟨q0, q1, q2, q3, q4, q5⟩ := hSw
            go_simp; all_goals (with_reducible rfl)
          simp only [Act.put, List.setIfInBounds_toArray, List.set_cons_zero, List.set_cons_succ]
          refine wpAnyH_ready (rs := [5]) (by kernel_rfl) (by simp) ?_
          refine (AllReadyH.cons (o := { dst := some 41, op := Op.call { callee := Callee.value (Operand.func 43), args := #[Operand.tmp 39, Operand.tmp 40], argTypes := #[46, 99] }, type := 3, pos := "ref.go:133", after := #[{ on := 3, ground := Ground.data }, { on := 4, ground := Ground.data }], guard := none }) rfl (fun K hK => ?_) AllReadyH.nil)
          go_simp
          refine HDI.out.mono ?_
          rintro e x7 ⟨rfl, hb7⟩
          have g7 := HKB.out x7 hb7
          have HB7 := Lib.hid hb7
          clear hb7
          go_wp2_with fail
          refine hK.out _ _ g7 (fun _ => ?_)
          clear hK K
          refine tk 6 (v := ?vq76) ?yq76 g7 ?_
          case yq76 =>
            intro w hSw
            go_simp; all_goals (with_reducible rfl)
          simp only [Act.put, List.setIfInBounds_toArray, List.set_cons_zero, List.set_cons_succ]
          refine wpAnyH_done (by kernel_rfl) ?_ _

          clear hS hS6 HKB HDI
          have HM7 := Lib.hid ((HM6.out.drewN 1).below HB7.out)
          have HBB7 : Hid (Below W6.heap.size W6 x7) := Lib.hid (below_drewN (Below.refl _ _) 1 |>.trans HB7.out)
          obtain ⟨Pl7, vR7, vP7, hC7, hba7, hbc7⟩ := (HM7.out.drewN 1).bec
          have HBE := Lib.hid (becomes_sy2 (s := s) hC7 hba7 HST.out.1 HK2.out.1 HK2.out.2.1)
          have HBC := Lib.hid hbc7
          have hnC : R ≠ C ∧ bx ≠ C := by
            have h1 := HM7.out.apartS (g := bx) ((HBB7.out.block bx hlt6).trans HBOX.out)
            obtain ⟨_, _, _, _, _, hC, _, _, _, _, hY7⟩ := HM7.out.ex
            refine ⟨qrow_ne HM7.out.rbox hC.box (by decide), fun e => h1 ?_⟩
            rw [hY7, e]; simp
          have hlt7 : bx < x7.heap.size := Nat.lt_of_lt_of_le hlt6 HBB7.out.size
          have HKC : Hid (∀ w2, Only [C] x7.drew w2 → w2.cell? ⟨R, 1, none⟩ = some (PF C) ∧ w2.cell? ⟨bx, 0, none⟩ = some (.int .i64 (s.k : Nat)) ∧ w2.cell? ⟨bx, 1, none⟩ = some (.int .u8 (s.b.toNat : Nat)) ∧ w2.cell? ⟨bx, 2, none⟩ = some (.int .i64 (s.l : Nat)) ∧ w2.cell? ⟨bx, 3, none⟩ = some (.int .i64 (s.d : Nat)) ∧ w2.cell? ⟨bx, 4, none⟩ = some (.int .i64 (s.r : Nat))) := Lib.hid (fun w2 ho =>
            ⟨cell_only ho (by simpa using hnC.1) g7.1, cell_only ho (by simpa using hnC.2) g7.2.1, cell_only ho (by simpa using hnC.2) g7.2.2.1, cell_only ho (by simpa using hnC.2) g7.2.2.2.1, cell_only ho (by simpa using hnC.2) g7.2.2.2.2.1, cell_only ho (by simpa using hnC.2) g7.2.2.2.2.2⟩)
          have hS7 : x7.drew.cell? ⟨R, 1, none⟩ = some (PF C) ∧ x7.drew.cell? ⟨bx, 0, none⟩ = some (.int .i64 (s.k : Nat)) ∧ x7.drew.cell? ⟨bx, 1, none⟩ = some (.int .u8 (s.b.toNat : Nat)) ∧ x7.drew.cell? ⟨bx, 2, none⟩ = some (.int .i64 (s.l : Nat)) ∧ x7.drew.cell? ⟨bx, 3, none⟩ = some (.int .i64 (s.d : Nat)) ∧ x7.drew.cell? ⟨bx, 4, none⟩ = some (.int .i64 (s.r : Nat)) := g7
          clear hC7 hba7 hbc7 g7
          go_upto_region 8 with fail
          refine wp_region_held_drew (S := fun w2 => w2.cell? ⟨R, 1, none⟩ = some (PF C) ∧ w2.cell? ⟨bx, 0, none⟩ = some (.int .i64 (s.k : Nat)) ∧ w2.cell? ⟨bx, 1, none⟩ = some (.int .u8 (s.b.toNat : Nat)) ∧ w2.cell? ⟨bx, 2, none⟩ = some (.int .i64 (s.l : Nat)) ∧ w2.cell? ⟨bx, 3, none⟩ = some (.int .i64 (s.d : Nat)) ∧ w2.cell? ⟨bx, 4, none⟩ = some (.int .i64 (s.r : Nat))) (by kernel_rfl) hS7 (fun hS => ?_)
          refine tk 0 (v := ?vq87) ?yq87 hS ?_
          case yq87 =>
            intro w hSw
            go_simp; all_goals (with_reducible rfl)
          simp only [Act.put, List.setIfInBounds_toArray, List.set_cons_zero, List.set_cons_succ]
          refine tk 1 (v := ?vq88) ?yq88 hS ?_
          case yq88 =>
            intro w hSw
            go_simp; all_goals (with_reducible rfl)
          simp only [Act.put, List.setIfInBounds_toArray, List.set_cons_zero, List.set_cons_succ]
          refine tk 2 (v := ?vq89) ?yq89 hS ?_
          case yq89 =>
            intro w hSw
            go_simp; all_goals (with_reducible rfl)
          simp only [Act.put, List.setIfInBounds_toArray, List.set_cons_zero, List.set_cons_succ]
          refine tk 3 (v := ?vq810) ?yq810 hS ?_
          case yq810 =>
            intro w hSw
            obtain ⟨q0, q1, q2, q3, q4, q5⟩ := hSw
            go_simp; all_goals (with_reducible rfl)
          simp only [Act.put, List.setIfInBounds_toArray, List.set_cons_zero, List.set_cons_succ]
          refine tk 4 (v := ?vq811) ?yq811 hS ?_
          case yq811 =>
            intro w hSw
            obtain ⟨q0, q1, q2, q3, q4, q5⟩ := hSw
            go_simp; all_goals (with_reducible rfl)
          simp only [Act.put, List.setIfInBounds_toArray, List.set_cons_zero, List.set_cons_succ]
          refine wpAnyH_ready (rs := [5]) (by kernel_rfl) (by simp) ?_
          refine (AllReadyH.cons (o := { dst := some 47, op := Op.call { callee := Callee.value (Operand.func 44), args := #[Operand.tmp 45, Operand.tmp 46], argTypes := #[46, 99] }, type := 0, pos := "ref.go:134", after := #[{ on := 3, ground := Ground.data }, { on := 4, ground := Ground.data }], guard := none }) rfl (fun K hK => ?_) AllReadyH.nil)
          go_simp
          refine HBE.out.mono ?_
          rintro e x8 hbe
          obtain ⟨rfl, hon8, Y8, hM8, hY8⟩ := HBC.out _ _ _ _ hbe
          have g8 := HKC.out x8 hon8
          have HON8 := Lib.hid hon8
          have HM8 := Lib.hid (And.intro hM8 hY8)
          clear hbe hon8 hM8 hY8
          go_wp2_with fail
          refine hK.out _ _ g8 (fun _ => ?_)
          clear hK K
          refine wpAnyH_done (by kernel_rfl) ?_ _

          clear hS hS7 HBE HBC HKC
          obtain ⟨_, z0, z1, z2, z3, z4⟩ := g8
          clear z3 z4
          have HAFO := HAF.out
          have HM9 : Hid (RD x8 R C base h b off cc N L (lc : Nat) (lp : Nat) (pb : Nat) (st' : Nat) r' y' Y8) := Lib.hid (by
            have h0 := HM8.out.1
            rw [← HAFO.1, ← HAFO.2.1] at h0
            exact h0)
          have hCY : C ∈ Y' := by
            obtain ⟨_, _, _, _, _, _, _, _, _, _, hY6⟩ := HM6.out.ex
            rw [hY6]; simp
          have hO7 : Own w.heap.size x7 (.slice AT T.length cT) T := HO6.out.below HBB7.out
          have HO8 : Hid (Own w.heap.size x8 (.slice AT T.length cT) T) := Lib.hid (hO7.keepB fun g e => by
            have h1 := hO7.from_base g e
            obtain ⟨cs, hcs⟩ := hO7.row e
            have h2 := HM7.out.apart hcs
            exact HON8.out.block g h1.2 (fun hm => h2 (by simp only [List.mem_cons, List.not_mem_nil, or_false] at hm; rw [hm]; exact hCY)))
          have hon7 : Only Y w x7 := HON6.out.fresh (HBB7.out.mono HON6.out.size)
          have HONX : Hid (Only Y w x8 ∧ ∀ i ∈ Y8, i ∈ Y ∨ w.heap.size ≤ i) := Lib.hid ⟨hon7.sub (Only.undrew HON8.out) (fun i hi => by simp only [List.mem_cons, List.not_mem_nil, or_false] at hi; rw [hi]; exact HON.out.2 C hCY), fun i hi => by
            rcases HM8.out.2 i hi with h1 | h1
            · exact HON.out.2 i h1
            · exact .inr (Nat.le_trans hon7.size h1)⟩
          have hrg : rGood r' := by rw [HAFO.1]; exact rGood_after HST.out.2.1 HK2.out.2.2.2.1 HK2.out.2.2.2.2
          have hst12 : st' < 12 := stateAfter_lt HST.out.1 HAFO.2.1
          have HST8 : Hid (st' < 12 ∧ rGood r' ∧ (decIo gd o cap L).ok y'.2 0) := Lib.hid ⟨hst12, hrg, HOK5.out⟩
          have hbkk : ∃ bk : Nat, BK = (bk : Int) ∧ (s.k = 0 → bk = 0) ∧ (s.k ≠ 0 → BK = r'.1) ∧ bk ≤ 4294967296 ∧ (s.k ≠ 0 → 1 ≤ bk) := by
            by_cases hk0 : s.k = 0
            · refine ⟨0, ?_, fun _ => rfl, fun h => absurd hk0 h, by omega, fun h => absurd hk0 h⟩
              rw [← HBK.out, hk0]; rfl
            · have e := HAFO.2.2.1 hk0
              rw [HBK.out] at e
              have h1 := hrg.1.1
              have h2 := hrg.2.1
              exact ⟨r'.1.toNat, by omega, fun h => absurd h hk0, fun _ => e, by omega, fun _ => by omega⟩
          obtain ⟨bk, hbk, hbk0, hbkr, hbkl, hbk1⟩ := hbkk
          have HBKF := Lib.hid (And.intro hbk (And.intro hbk0 (And.intro hbkr hbk1)))
          have hbki : (bk : Int) ≤ 4294967296 := by omega
          have hsl : (s.l : Int) ≤ 273 := by have := HK2.out.2.2.1; omega
          obtain ⟨FT, hFT⟩ : ∃ FT, F - T.length = FT := ⟨_, rfl⟩
          have hFTi : (F : Int) - (T.length : Int) = (FT : Int) := by have := HEND.out; omega
          have HFT := Lib.hid hFT
          rw [hbk]
          have hbx8 : x8.heap[bx]? = some (.cells [Value.int .i64 (s.k : Nat), .int .u8 (s.b.toNat : Nat), .int .i64 (s.l : Nat), .int .i64 (s.d : Nat), .int .i64 (s.r : Nat)].toArray 99 (0, 0)) :=
            (HON8.out.block bx hlt7 (by simpa using hnC.2)).trans ((HBB7.out.block bx hlt6).trans HBOX.out)
          have HBX8 : Hid (x8.heap[bx]? = some (.cells [Value.int .i64 (s.k : Nat), .int .u8 (s.b.toNat : Nat), .int .i64 (s.l : Nat), .int .i64 (s.d : Nat), .int .i64 (s.r : Nat)].toArray 99 (0, 0)) ∧ ∀ w2, Adds w.heap.size x8 w2 → w2.heap[bx]? = x8.heap[bx]?) := Lib.hid ⟨hbx8, fun w2 h2 => h2.keep bx (Array.getElem?_eq_some_iff.1 hbx8).1 (fun cs hcs => by
            rw [hbx8] at hcs
            injection hcs with hcs
            injection hcs with _ e _
            exact absurd e (by decide))⟩
          clear HAFO hCY hO7 hon7 hbx8 hrg hst12 hbk hbk0 hbkr hbkl hbk1 hFT hlt6 hlt7 hnC
          by_cases hbad : T.length < bk ∨ dict < (bk : Int) ∨ FT < s.l
          · have hk0 : s.k ≠ 0 := fun hk => by
              have h1 := HBKF.out.2.1 hk
              have h2 := HAF.out.2.2.2 hk
              rcases hbad with h | h | h <;> omega
            have hres : RES = none := by
              rw [← HU.out]
              refine uread_bad HEND.out HTS.out hk0 ?_
              have h1 := HBKF.out.2.2.1 hk0
              rw [HBKF.out.1] at h1
              have := HFT.out
              rcases hbad with h | h | h
              · left; omega
              · left; omega
              · right; omega
            have HRN := Lib.hid hres
            clear hres
            by_cases h1 : T.length < bk
            · have h1b : decide ((T.length : Int) < (bk : Int)) = true := decide_eq_true (by omega)
              clear hbad
              go_wp2_with fail
              go_ret2
              rw [HRN.out]
              exact ⟨⟨rfl, HONX.out.1⟩, .none⟩
            · have h1b : decide ((T.length : Int) < (bk : Int)) = false := decide_eq_false (by omega)
              by_cases h2 : dict < (bk : Int)
              · have h2b : decide (dict < (bk : Int)) = true := decide_eq_true h2
                clear hbad
                go_wp2_with fail
                go_ret2
                rw [HRN.out]
                exact ⟨⟨rfl, HONX.out.1⟩, .none⟩
              · have h2b : decide (dict < (bk : Int)) = false := decide_eq_false h2
                have h3 : FT < s.l := by rcases hbad with h | h | h <;> omega
                have h3b : decide ((FT : Int) < (s.l : Int)) = true := decide_eq_true (by omega)
                clear hbad
                go_wp2_with fail
                go_ret2
                rw [HRN.out]
                exact ⟨⟨rfl, HONX.out.1⟩, .none⟩
          · have h1b : decide ((T.length : Int) < (bk : Int)) = false := decide_eq_false (fun h => hbad (.inl (by omega)))
            have h2b : decide (dict < (bk : Int)) = false := decide_eq_false (fun h => hbad (.inr (.inl h)))
            have h3b : decide ((FT : Int) < (s.l : Int)) = false := decide_eq_false (fun h => hbad (.inr (.inr (by omega))))
            have h1n : ¬ T.length < bk := fun h => hbad (.inl h)
            have h3n : ¬ FT < s.l := fun h => hbad (.inr (.inr h))
            have HGD : Hid (bk ≤ T.length ∧ (bk : Int) ≤ dict ∧ s.l ≤ FT) := Lib.hid ⟨by omega, by omega, by omega⟩
            clear hbad
            obtain ⟨T1, hT1'⟩ : ∃ T1, (if s.k = 0 then T ++ [s.b] else T) = T1 := ⟨_, rfl⟩
            have HT1 := Lib.hid hT1'
            have HU2 : Hid (uread gd o cap L lc lp pb dict F gk (growN T1 bk s.l) st' r' y' = RES) := Lib.hid (by
              rw [← HU.out, ← HT1.out]
              by_cases hk0 : s.k = 0
              · rw [if_pos hk0, HAF.out.2.2.2 hk0]
                exact (uread_lit HEND.out HTS.out HOF.out hk0).symm
              · rw [if_neg hk0]
                have h1 := HBKF.out.2.2.1 hk0
                rw [HBKF.out.1] at h1
                have h2 := uread_far (gd := gd) (o := o) (cap := cap) (L := L) (lc := lc) (lp := lp) (pb := pb) (dict := dict) (fin := F) (f := gk) HEND.out HTS.out HOF.out hk0 (by have := HGD.out; have := HFT.out; omega)
                rw [← h1, Int.toNat_natCast] at h2
                exact h2.symm)
            have hT1l : T.length ≤ T1.length ∧ T1.length ≤ T.length + 1 := by
              rw [← hT1']
              split
              · rw [List.length_append, List.length_singleton]; omega
              · omega
            have HTL : Hid (T1.length + s.l ≤ F ∧ T.length + 1 ≤ T1.length + s.l ∧ (s.l ≠ 0 → 1 ≤ bk ∧ bk ≤ T1.length)) := Lib.hid (by
              have h1 := HFT.out
              have h2 := HGD.out
              have h3 := HEND.out
              by_cases hk0 : s.k = 0
              · have h4 := HAF.out.2.2.2 hk0
                have h5 : T1.length = T.length + 1 := by rw [← hT1', if_pos hk0, List.length_append, List.length_singleton]
                exact ⟨by omega, by omega, fun h => absurd h4 h⟩
              · have h4 := HBKF.out.2.2.2 hk0
                have h6 : 1 ≤ s.l := by
                  have h := sym_lpos (io := decIo gd o cap L) (lc := lc) (lp := lp) (pb := pb) (st := st) (r := r) (H := T) (k := 0) (b := 0) (l := 0) (d := 0) (q := 0) (x := y)
                  rw [HTS.out] at h
                  exact h hk0
                have h5 : T1.length = T.length := by rw [← hT1', if_neg hk0]
                exact ⟨by omega, by omega, fun _ => ⟨by omega, by omega⟩⟩)
            have hszw : w.heap.size ≤ x8.heap.size := HONX.out.1.size
            clear hT1' hT1l
            go_upto_if 68 with fail
            go_cut [10] from 22 to 89 (fun s10 wx => ∃ vv, vv = s10 ∧ Hid (Own w.heap.size wx vv T1) ∧ Hid (Adds w.heap.size x8 wx))
            case first =>
              by_cases hk0 : s.k = 0
              · have hk0b : (((s.k : Nat) : Int) == 0) = true := by rw [hk0]; rfl
                obtain ⟨W8, hW8⟩ : ∃ W, x8.alloc (.cells #[.int .u8 (s.b.toNat : Nat)] 5) = W := ⟨_, rfl⟩
                have hb8 : Adds w.heap.size x8 W8 := by rw [← hW8]; exact (Adds.refl _ _).alloc hszw _
                have ho8 : Own w.heap.size W8 (.slice AT T.length cT) T := by rw [← hW8]; exact HO8.out.alloc _
                have hx8 : Bytes W8 (some ⟨x8.heap.size, 0, none⟩) [s.b] := by rw [← hW8]; exact lit_bytes x8 s.b
                have HT1b : Hid (T ++ [s.b] = T1) := Lib.hid (by rw [← HT1.out, if_pos hk0])
                have HW8 := Lib.hid hW8
                have HB8 := Lib.hid hb8
                have HOO8 := Lib.hid ho8
                have HX8 := Lib.hid hx8
                have hsz8 : Hid (w.heap.size ≤ W8.heap.size) := Lib.hid (Nat.le_trans hszw hb8.below.size)
                have HT2M : Hid (T.length ≤ 1000000000) := Lib.hid (by omega)
                clear hW8 hb8 ho8 hx8 hk0
                go_wp2_with (at_builtin; rw [HW8.out]; refine wpList_append_bytes rfl (.tmp 69) (.tmp 72) rfl w.heap.size W8 _ T rfl HOO8.out (some ⟨x8.heap.size, 0, none⟩) [s.b] 1 rfl HX8.out (by have := HT2M.out; simp; omega) hsz8.out ?_; intro v9 w9 ho9 hg9; have HO9 : Hid (Own w.heap.size w9 v9 T1) := Lib.hid (by rw [← HT1b.out]; exact ho9); have HB9 := Lib.hid (HB8.out.grown HOO8.out hg9 hsz8.out); clear ho9 hg9)
                go_meet
                exact ⟨_, rfl, HO9, HB9⟩
              · have hk0b : (((s.k : Nat) : Int) == 0) = false := beq_eq_false_iff_ne.2 (by omega)
                have HT1b : Hid (T = T1) := Lib.hid (by rw [← HT1.out, if_neg hk0])
                clear hk0
                go_wp2_with fail
                go_meet
                exact ⟨_, rfl, Lib.hid (by rw [← HT1b.out]; exact HO8.out), Lib.hid (Adds.refl _ _)⟩
            case rest =>
              obtain ⟨v, rfl, HOc, HAc⟩ := hcut
              go_wp2_with fail
              go_loopw [10, 14] (fun v i wr2 => ∃ (n : Nat) (vv : Value), n ≤ s.l ∧ vv = v ∧ i = .int .i64 (n : Nat) ∧ Hid (Own w.heap.size wr2 vv (growN T1 bk n)) ∧ Hid (Adds w.heap.size x8 wr2)) (fun _ i _ => s.l - (intOf i).toNat)
              case atStart => exact ⟨0, _, Nat.zero_le _, rfl, rfl, HOc, HAc⟩
              case round =>
                obtain ⟨n, v, hn, rfl, rfl, HO, HAW⟩ := hrel
                have z2w : wr.cell? ⟨bx, 2, none⟩ = some (.int .i64 (s.l : Nat)) := by rw [cell_of_row wr _ _ _ _ _ ((HBX8.out.2 wr HAW.out).trans HBX8.out.1)]; rfl
                by_cases hnl : n < s.l
                · have hni : (n : Int) < (s.l : Int) := by omega
                  have hnb : decide ((n : Int) < (s.l : Int)) = true := decide_eq_true hni
                  have hbkT := HTL.out.2.2 (by omega)
                  have hbkl1 := hbkT.1
                  have hbkl2 := hbkT.2
                  have HTL1 := HTL.out.1
                  obtain ⟨T2, hT⟩ : ∃ T2, growN T1 bk n = T2 := ⟨_, rfl⟩
                  have hTl : T2.length = T1.length + n := by rw [← hT]; exact growN_length T1 bk n
                  rw [hT] at HO
                  obtain ⟨A2, c2, rfl, hc2, hm2, hB2⟩ := HO.out.read
                  have hLi : (T2.length : Int) ≤ 1000000000 := by omega
                  have hc2i : (T2.length : Int) ≤ (c2 : Int) := by omega
                  obtain ⟨x, hx⟩ : ∃ x, T2.length - bk = x := ⟨_, rfl⟩
                  have hxi : (T2.length : Int) - (bk : Int) = (x : Int) := by omega
                  have hxl : (x : Int) < (T2.length : Int) := by omega
                  obtain ⟨g, off2, rfl, _, hat⟩ := hB2.addr (by omega)
                  have cx := hat x (by omega)
                  have e1 := getD_of (d := T2) (i := x) (by omega)
                  rw [← e1] at cx
                  have HSUC : Hid (growN T1 bk (n + 1) = T2 ++ [T2.getD x 0]) := Lib.hid (by unfold growN; rw [hT, hx])
                  generalize T2.getD x 0 = u at *
                  obtain ⟨W4, hW4⟩ : ∃ W4, wr.alloc (.cells #[.int .u8 (u.toNat : Nat)] 5) = W4 := ⟨_, rfl⟩
                  have hbw : w.heap.size ≤ wr.heap.size := Nat.le_trans hszw HAW.out.below.size
                  have hb4 : Adds w.heap.size x8 W4 := by rw [← hW4]; exact HAW.out.alloc hbw _
                  have ho4 : Own w.heap.size W4 (.slice (some ⟨g, off2, none⟩) T2.length c2) T2 := by rw [← hW4]; exact HO.out.alloc _
                  have hx4 : Bytes W4 (some ⟨wr.heap.size, 0, none⟩) [u] := by rw [← hW4]; exact lit_bytes wr u
                  have hb4s : w.heap.size ≤ W4.heap.size := by rw [← hW4]; simp; omega
                  have HW4 := Lib.hid hW4
                  have HB4 := Lib.hid hb4
                  have HB4S := Lib.hid hb4s
                  have HO4 := Lib.hid ho4
                  have HX4 := Lib.hid hx4
                  have HTL2 : Hid (T2.length ≤ 1000000000) := Lib.hid (by omega)
                  clear hW4 hb4 ho4 hx4 hT hTl hc2 hm2 hB2 hx hat e1 hbw hb4s hbkT hbkl1 hbkl2 HTL1
                  go_wp2_with (at_builtin; rw [HW4.out]; refine wpList_append_bytes rfl (.tmp 80) (.tmp 88) rfl w.heap.size W4 _ T2 rfl HO4.out (some ⟨wr.heap.size, 0, none⟩) [u] 1 rfl HX4.out (by have := HTL2.out; simp; omega) HB4S.out ?_; intro v5 w5 ho5 hg5; have HO5 : Hid (Own w.heap.size w5 v5 (growN T1 bk (n + 1))) := Lib.hid (by rw [HSUC.out]; exact ho5); have HB5 := Lib.hid (HB4.out.grown HO4.out hg5 HB4S.out); clear ho5 hg5)
                  exact ⟨⟨n + 1, _, by omega, rfl, by go_num, HO5, HB5⟩, by simp [intOf]; omega⟩
                · obtain rfl : n = s.l := by omega
                  have hnb : decide (((s.l : Nat) : Int) < ((s.l : Nat) : Int)) = false := decide_eq_false (by omega)
                  go_wp2_with fail
                  go_roundg gk
                  case measure => omega
                  case rel =>
                    have hgl := growN_length T1 bk s.l
                    refine ⟨growN T1 bk s.l, st', r', y', Y8, v, rfl, ?_, ?_, ?_, HO, HU2, Lib.hid (HM9.out.adds HAW.out HM0.out.lt.2.2), HST8, Lib.hid ⟨HONX.out.1.fresh HAW.out.below, HONX.out.2⟩⟩ <;> rw [hgl] <;> (have h1 := HTL.out; have h2 := HTB.out; omega)
    · have hres : RES = some (T, st, r, y) := by rw [← HU.out]; exact uread_end (by omega)
      have HRN := Lib.hid hres
      have hendb : decide ((T.length : Int) < (F : Int)) = false := decide_eq_false (by omega)
      have hBF := hBT.cutFrom hT1 hcT
      have hfr : ¬ T.length < F := hend
      have hT1i : (H.length : Int) ≤ (T.length : Int) := by omega
      obtain ⟨AF, hAF⟩ : ∃ AF, (if cT = H.length then AT else AT.map (·.add H.length)) = AF := ⟨_, rfl⟩
      rw [hAF] at hBF
      have HAF := Lib.hid hAF
      have HBF := Lib.hid hBF
      clear hres hBF hAF hBT
      go_wp2_with fail
      all_goals
        go_ret2
        rw [HRN.out]
      · refine ⟨⟨AF, 0, ?_, by omega, by omega, HBF.out, _, HM.out, HON.out.1⟩, .some ⟨HST.out.1, HST.out.2.1⟩⟩
        rw [← HAF.out, if_pos (by first | assumption | omega)]; rfl
      · refine ⟨⟨AF, cT - H.length, ?_, by omega, by omega, HBF.out, _, HM.out, HON.out.1⟩, .some ⟨HST.out.1, HST.out.2.1⟩⟩
        rw [← HAF.out, if_neg (by assumption)]; rfl
theorem qread_any {gd o cap R C base h b off cc N lc lp pb : Nat} {L : List UInt8} {r0 : R4} {y0 : PD} {Y : List Nat} {w : World} {st0 : Nat} (hM : RD w R C base h b off cc N L (lc : Nat) (lp : Nat) (pb : Nat) (st0 : Nat) r0 y0 Y) (hok : (decIo gd o cap L).ok y0.2 0) (hlc : lc ≤ 4) (hlp : lp ≤ 4) (hpb : pb ≤ 4) (hst : st0 < 12) (hr : rGood r0)
    (A : Option Addr) (H : List UInt8) (c : Nat) (hB : Bytes w A H) (hc : H.length ≤ c) (hH : H.length ≤ 1000000) (many : Nat) (hmany : many ≤ 1000000) (hN : N = 2180 + 768 * 2 ^ (lc + lp)) (hN2 : N ≤ 1000000) (dict : Int) (hd1 : 1 ≤ dict) {RES : Option (List UInt8 × Nat × R4 × PD)} (hres : uread gd o cap L lc lp pb dict (H.length + many) many H st0 r0 y0 = RES) :
    Calls Try.prog 25 #[PF R, .slice A H.length c, .int .i64 (many : Nat), .int .i64 dict] w (RdrDone R C base h b off cc N L lc lp pb Y H.length RES w) :=
  (qread_big hM hok hlc hlp hpb hst hr A H c hB hc (by omega) many (by omega) hN hN2 dict hd1 hres).mono fun _ _ h => h.1
end Go.Proofs.Ytkckjjchfccdjaa
