/- Several texts in one: QrRead, QrStart, UmReads. -/
import Derived.Test.YtdkimllfpiphgaaQrSymAll
import Derived.Test.YtdkimllfpiphgaaUmReadAll
import Derived.Test.YtdkimllfpiphgaaCoGrow
import Derived.Test.YtdkimllfpiphgaaRdRefAll
import Derived.Test.YtdkimllfpiphgaaMlBaseAll
import Derived.Test.YtdkimllfpiphgaaLift
/- The reference's Reader: Read. -/
namespace Go.Proofs.Ytdkimllfpiphgaa
open Go.RowKit

def RdrDone (R C base h b off cc N : Nat) (L : List UInt8) (lc lp pb : Nat) (Y : List Nat) (n0 : Nat) (res : Option (List UInt8 × Nat × R4 × PD)) (w : World) (e : Ending) (w' : World) : Prop :=
  match res with
  | none => e = .returned (.tuple #[.slice none 0 0, .bool false]) ∧ Only Y w w'
  | some (T, st, r, y) => ∃ A c, e = .returned (.tuple #[.slice A (T.length - n0) c, .bool true]) ∧ T.length - n0 ≤ c ∧ c ≤ 9223372036854775807 ∧ Bytes w' A (T.drop n0) ∧ ∃ Y', RD w' R C base h b off cc N L (lc : Nat) (lp : Nat) (pb : Nat) (st : Nat) r y Y' ∧ Only Y w w'
theorem Only.sub {X Y : List Nat} {w a b : World} (h : Only X w a) (k : Only Y a b) (hs : ∀ i ∈ Y, i ∈ X ∨ w.heap.size ≤ i) : Only X w b := h.trans k hs
set_option maxRecDepth 100000 in
set_option maxHeartbeats 8000000 in
theorem qread_any {gd o cap R C base h b off cc N lc lp pb : Nat} {L : List UInt8} {r0 : R4} {y0 : PD} {Y : List Nat} {w : World} {st0 : Nat} (hM : RD w R C base h b off cc N L (lc : Nat) (lp : Nat) (pb : Nat) (st0 : Nat) r0 y0 Y) (hok : (decIo gd o cap L).ok y0.2 0) (hlc : lc ≤ 4) (hlp : lp ≤ 4) (hpb : pb ≤ 4) (hst : st0 < 12) (hr : rGood r0)
    (A : Option Addr) (H : List UInt8) (c : Nat) (hB : Bytes w A H) (hc : H.length ≤ c) (hH : H.length ≤ 1000000) (many : Nat) (hmany : many ≤ 1000000) (hN : N = 2180 + 768 * 2 ^ (lc + lp)) (hN2 : N ≤ 1000000) (dict : Int) (hd1 : 1 ≤ dict) {RES : Option (List UInt8 × Nat × R4 × PD)} (hres : uread gd o cap L lc lp pb dict (H.length + many) many H st0 r0 y0 = RES) :
    Calls Try.prog 12 #[PF R, .slice A H.length c, .int .i64 (many : Nat), .int .i64 dict] w (RdrDone R C base h b off cc N L lc lp pb Y H.length RES w) := by
  have HNE := Lib.hid hN
  have HM0 := Lib.hid hM
  have HPAR := Lib.hid (And.intro hlc (And.intro hlp hpb))
  have HST0 := Lib.hid (And.intro hst (And.intro hr hok))
  have hHi : (H.length : Int) ≤ 1000000 := by omega
  have hci : (H.length : Int) ≤ (c : Int) := by omega
  have hmi : (many : Int) ≤ 1000000 := by omega
  obtain ⟨F, hF⟩ : ∃ F, H.length + many = F := ⟨_, rfl⟩
  have hFi : (H.length : Int) + (many : Int) = (F : Int) := by omega
  have hFb : (F : Int) ≤ 2000000 := by omega
  rw [hF] at hres
  have HRES := Lib.hid hres
  have HF := Lib.hid hF
  obtain ⟨W2, hW2⟩ : ∃ W2, w.alloc (.cells #[] 5) = W2 := ⟨_, rfl⟩
  have hb2 : Below w.heap.size w W2 := by rw [← hW2]; exact (Below.refl _ _).alloc (Nat.le_refl _) _
  have ho2 : Own w.heap.size W2 (.slice (some ⟨w.heap.size, 0, none⟩) 0 0) [] := by rw [← hW2]; exact empty_own w
  have HW2 := Lib.hid hW2
  have HB2 := Lib.hid hb2
  have HO2 := Lib.hid ho2
  have HBY := Lib.hid (hB.below hb2)
  have HHL := Lib.hid hH
  clear hN hM hlc hlp hpb hst hr hok hres hF hW2 hb2 ho2 hB hc hH
  go_enter Try.func12, Try.ntmps12
  go_upto_region 2 with (at_builtin; rw [HW2.out]; refine wpList_append_bytes rfl (.tmp 15) (.tmp 16) rfl w.heap.size W2 _ [] rfl HO2.out A H c rfl HBY.out (by have := HHL.out; simp; omega) HB2.out.size ?_; intro v1 w3 ho3 hg3; have HO3 := Lib.hid (show Own w.heap.size w3 v1 H from ho3); have HB3 := Lib.hid (below_grown HB2.out hg3 HB2.out.size (fun g e => (HO2.out.from_base g e).1)); clear ho3 hg3)
  go_wp2_with fail
  go_loopg [10] many (fun gk v wr => ∃ (T : List UInt8) (st : Nat) (r : R4) (y : PD) (Y' : List Nat) (vv : Value), vv = v ∧ H.length ≤ T.length ∧ T.length ≤ F ∧ F ≤ T.length + gk ∧ Hid (Own w.heap.size wr vv T) ∧ Hid (uread gd o cap L lc lp pb dict F gk T st r y = RES) ∧ Hid (RD wr R C base h b off cc N L (lc : Nat) (lp : Nat) (pb : Nat) (st : Nat) r y Y') ∧ Hid (st < 12 ∧ rGood r ∧ (decIo gd o cap L).ok y.2 0) ∧ Hid (Only Y w wr ∧ ∀ i ∈ Y', i ∈ Y ∨ w.heap.size ≤ i))
  case atStart => exact ⟨H, st0, r0, y0, Y, _, rfl, Nat.le_refl _, by have := HF.out; omega, by have := HF.out; omega, HO3, HRES, Lib.hid (HM0.out.below HB3.out), HST0, Lib.hid ⟨Only.of_below HB3.out, fun i hi => .inl hi⟩⟩
  case round =>
    obtain ⟨T, st, r, y, Y', v, rfl, hT1, hT2, hT3, HO, HU, HM, HST, HON⟩ := hrel
    obtain ⟨AT, cT, rfl, hcT, hmT, hBT⟩ := HO.out.read
    have hTi : (T.length : Int) ≤ 2000000 := by omega
    have hcTi : (T.length : Int) ≤ (cT : Int) := by omega
    have HTB := Lib.hid (And.intro hT1 (And.intro hT2 hT3))
    have hsz := HON.out.1.size
    by_cases hend : T.length < F
    · have hendi : (T.length : Int) < (F : Int) := by omega
      cases gk with
      | zero => omega
      | succ gk =>
        obtain ⟨⟨s, st', r', y'⟩, ht⟩ : ∃ t, Md.sym (decIo gd o cap L) lc lp pb st r T 0 0 0 0 0 y = t := ⟨_, rfl⟩
        obtain ⟨hra, hsa, hda, hla⟩ := sym_after (decIo gd o cap L) lc lp pb st r T 0 0 0 0 0 y ht
        have hk := qsym_any HM.out HST.out.2.2 HPAR.out.1 HPAR.out.2.1 HPAR.out.2.2 HST.out.1 HST.out.2.1.1.1 HST.out.2.1.2.1 AT T cT hBT hcT (by omega) (fun a e => by
          obtain ⟨cs, hcs⟩ := HO.out.row (g := a.block) (by rw [e]; rfl)
          exact HM.out.apart hcs) HNE.out hN2 0 0 0 0 0 ht
        have HKD := Lib.hid hk
        have HTS := Lib.hid ht
        have HAF := Lib.hid (And.intro hra (And.intro hsa (And.intro hda hla)))
        have HEND := Lib.hid hend
        clear hk ht hBT hcT hmT hra hsa hda hla hend
        go_wp2_with fail
        refine HKD.out.mono ?_
        rintro e w5 ⟨⟨rfl, hM5, hon5⟩, ok5, hk2, hr3, hl273, hd5, hd51⟩
        have hO5 : Own w.heap.size w5 (.slice AT T.length cT) T := HO.out.keepB fun g e => by
          have h1 := HO.out.from_base g e
          obtain ⟨cs, hcs⟩ := HO.out.row e
          exact hon5.block g h1.2 (HM.out.apart hcs)
        have HON5 : Hid (Only Y w w5) := Lib.hid (HON.out.1.sub hon5 HON.out.2)
        obtain ⟨W6, hW6⟩ : ∃ W, w5.alloc (.cells #[.int .i64 (s.k : Nat), .int .u8 (s.b.toNat : Nat), .int .i64 (s.l : Nat), .int .i64 (s.d : Nat), .int .i64 (s.r : Nat)] 58) = W := ⟨_, rfl⟩
        have hbox : W6.heap[w5.heap.size]? = some (.cells [Value.int .i64 (s.k : Nat), .int .u8 (s.b.toNat : Nat), .int .i64 (s.l : Nat), .int .i64 (s.d : Nat), .int .i64 (s.r : Nat)].toArray 58 (0, 0)) := by rw [← hW6]; exact heap_alloc_last _ _
        obtain ⟨z0, z1, z2, z3, z4, hb6⟩ := sy_box hW6
        have hlt6 := block_lt_of_cell z0
        obtain ⟨bx, hbx⟩ : ∃ bx, w5.heap.size = bx := ⟨_, rfl⟩
        have HB6 : Hid (Below w.heap.size w5 W6) := Lib.hid (hb6.mono HON5.out.size)
        have hM6 := hM5.below hb6
        have HO6 : Hid (Own w.heap.size W6 (.slice AT T.length cT) T) := Lib.hid (hO5.below hb6)
        have HON6 : Hid (Only Y w W6) := Lib.hid (HON5.out.fresh HB6.out)
        have HBXW : Hid (w.heap.size ≤ bx) := Lib.hid (by rw [← hbx]; exact HON5.out.size)
        rw [hbx] at z0 z1 z2 z3 z4 hlt6 hbox
        have HBX := Lib.hid hbx
        have HBOX := Lib.hid hbox
        have HW6 := Lib.hid hW6
        have HOK5 := Lib.hid ok5
        have HK2 := Lib.hid (And.intro hk2 (And.intro hr3 (And.intro hl273 (And.intro hd5 hd51))))
        have hr6 : W6.cell? ⟨R, 1, none⟩ = some (PF C) := by rw [cell_of_row W6 _ _ _ _ _ hM6.rbox]; rfl
        have hr60 : W6.cell? ⟨R, 0, none⟩ = some (PF h) := by rw [cell_of_row W6 _ _ _ _ _ hM6.rbox]; rfl
        have hou := hM6.outCell
        have HM6 := Lib.hid hM6
        have hRl := hM6.lt.2.1
        clear hM5 hon5 ok5 hk2 hr3 hl273 hd5 hd51 hO5 hW6 hb6 HKD HM HO hbx hM6 hbox
        go_upto_region 5 with fail
        rw [HW6.out, HBX.out]
        cases hout : y'.2.out with
        | true =>
          have hres : RES = none := by rw [← HU.out]; exact uread_out HEND.out HTS.out hout
          rw [hout] at hou
          have HRN := Lib.hid hres
          clear hres hout
          go_wp2_with fail
          go_ret2
          rw [HRN.out]
          exact ⟨rfl, HON6.out⟩
        | false =>
          rw [hout] at hou
          have HOF := Lib.hid hout
          clear hout
          go_upto_region 7 with fail
          clear hou hr60
          have hS6 : W6.drew.cell? ⟨R, 1, none⟩ = some (PF C) ∧ W6.drew.cell? ⟨bx, 0, none⟩ = some (.int .i64 (s.k : Nat)) ∧ W6.drew.cell? ⟨bx, 1, none⟩ = some (.int .u8 (s.b.toNat : Nat)) ∧ W6.drew.cell? ⟨bx, 2, none⟩ = some (.int .i64 (s.l : Nat)) ∧ W6.drew.cell? ⟨bx, 3, none⟩ = some (.int .i64 (s.d : Nat)) ∧ W6.drew.cell? ⟨bx, 4, none⟩ = some (.int .i64 (s.r : Nat)) := ⟨hr6, z0, z1, z2, z3, z4⟩
          have HKB : Hid (∀ w2, Below W6.drew.heap.size W6.drew w2 → w2.cell? ⟨R, 1, none⟩ = some (PF C) ∧ w2.cell? ⟨bx, 0, none⟩ = some (.int .i64 (s.k : Nat)) ∧ w2.cell? ⟨bx, 1, none⟩ = some (.int .u8 (s.b.toNat : Nat)) ∧ w2.cell? ⟨bx, 2, none⟩ = some (.int .i64 (s.l : Nat)) ∧ w2.cell? ⟨bx, 3, none⟩ = some (.int .i64 (s.d : Nat)) ∧ w2.cell? ⟨bx, 4, none⟩ = some (.int .i64 (s.r : Nat))) := Lib.hid (fun w2 hb =>
            ⟨(hb.cell (p := ⟨R, 1, none⟩) hRl).trans hr6, (hb.cell (p := ⟨bx, 0, none⟩) hlt6).trans z0, (hb.cell (p := ⟨bx, 1, none⟩) hlt6).trans z1, (hb.cell (p := ⟨bx, 2, none⟩) hlt6).trans z2, (hb.cell (p := ⟨bx, 3, none⟩) hlt6).trans z3, (hb.cell (p := ⟨bx, 4, none⟩) hlt6).trans z4⟩)
          obtain ⟨Pl, vR, vP, hC6, _, _⟩ := (HM6.out.drewN 1).bec
          have HDI := Lib.hid (dist_any C base (lc : Nat) (lp : Nat) (pb : Nat) (st : Nat) r Pl vR vP (s.k : Nat) s.b (s.l : Nat) (s.d : Nat) (s.r : Nat) W6.drew hC6 (fun _ => ⟨by omega, by have := HK2.out.2.1; omega⟩))
          obtain ⟨BK, hBK⟩ : ∃ BK, distZ r (s.k : Nat) (s.d : Nat) (s.r : Nat) = BK := ⟨_, rfl⟩
          rw [hBK] at HDI
          have HBK := Lib.hid hBK
          clear hBK hC6 hr6 z0 z1 z2 z3 z4
          refine wp_region_held_drew (S := fun w2 => w2.cell? ⟨R, 1, none⟩ = some (PF C) ∧ w2.cell? ⟨bx, 0, none⟩ = some (.int .i64 (s.k : Nat)) ∧ w2.cell? ⟨bx, 1, none⟩ = some (.int .u8 (s.b.toNat : Nat)) ∧ w2.cell? ⟨bx, 2, none⟩ = some (.int .i64 (s.l : Nat)) ∧ w2.cell? ⟨bx, 3, none⟩ = some (.int .i64 (s.d : Nat)) ∧ w2.cell? ⟨bx, 4, none⟩ = some (.int .i64 (s.r : Nat))) (by kernel_rfl) hS6 (fun hS => ?_)
          refine wpAnyH_take (i := 0) (oi := { dst := some 36, op := Op.move (Operand.tmp 0), type := 37, pos := "ref.go:133", after := #[], guard := none }) (v := ?vq71) rfl (by kernel_rfl) (by kernel_rfl) (by kernel_rfl) (fun _ _ _ h => h) (Or.inl ⟨by rfl, ?yq71⟩) hS ?_
          case yq71 =>
            intro w hSw
            go_simp; all_goals (with_reducible rfl)
          simp only [Act.put, List.setIfInBounds_toArray, List.set_cons_zero, List.set_cons_succ]
          refine wpAnyH_take (i := 1) (oi := { dst := some 37, op := Op.nilCheck (Operand.tmp 36), type := 0, pos := "ref.go:133", after := #[{ on := 0, ground := Ground.data }], guard := none }) (v := ?vq72) rfl (by kernel_rfl) (by kernel_rfl) (by kernel_rfl) (fun _ _ _ h => h) (Or.inl ⟨by rfl, ?yq72⟩) hS ?_
          case yq72 =>
            intro w hSw
            go_simp; all_goals (with_reducible rfl)
          simp only [Act.put, List.setIfInBounds_toArray, List.set_cons_zero, List.set_cons_succ]
          refine wpAnyH_take (i := 2) (oi := { dst := some 38, op := Op.fieldAddr 41 (Operand.tmp 37) 1, type := 0, pos := "ref.go:133", after := #[{ on := 1, ground := Ground.data }], guard := none }) (v := ?vq73) rfl (by kernel_rfl) (by kernel_rfl) (by kernel_rfl) (fun _ _ _ h => h) (Or.inl ⟨by rfl, ?yq73⟩) hS ?_
          case yq73 =>
            intro w hSw
            go_simp; all_goals (with_reducible rfl)
          simp only [Act.put, List.setIfInBounds_toArray, List.set_cons_zero, List.set_cons_succ]
          refine wpAnyH_take (i := 3) (oi := { dst := some 39, op := Op.load 38 (Operand.tmp 38), type := 38, pos := "ref.go:133", after := #[{ on := 2, ground := Ground.data }], guard := none }) (v := ?vq74) rfl (by kernel_rfl) (by kernel_rfl) (by kernel_rfl) (fun _ _ _ h => h) (Or.inl ⟨by rfl, ?yq74⟩) hS ?_
          case yq74 =>
            intro w hSw
            obtain ⟨q0, q1, q2, q3, q4, q5⟩ := hSw
            go_simp; all_goals (with_reducible rfl)
          simp only [Act.put, List.setIfInBounds_toArray, List.set_cons_zero, List.set_cons_succ]
          refine wpAnyH_take (i := 4) (oi := { dst := some 40, op := Op.load 58 (Operand.tmp 12), type := 58, pos := "ref.go:133", after := #[], guard := none }) (v := ?vq75) rfl (by kernel_rfl) (by kernel_rfl) (by kernel_rfl) (fun _ _ _ h => h) (Or.inl ⟨by rfl, ?yq75⟩) hS ?_
          case yq75 =>
            intro w hSw
            obtain ⟨q0, q1, q2, q3, q4, q5⟩ := hSw
            go_simp; all_goals (with_reducible rfl)
          simp only [Act.put, List.setIfInBounds_toArray, List.set_cons_zero, List.set_cons_succ]
          refine wpAnyH_ready (rs := [5]) (by kernel_rfl) (by simp) ?_
          refine (AllReadyH.cons (o := { dst := some 41, op := Op.call { callee := Callee.value (Operand.func 21), args := #[Operand.tmp 39, Operand.tmp 40], argTypes := #[38, 58] }, type := 3, pos := "ref.go:133", after := #[{ on := 3, ground := Ground.data }, { on := 4, ground := Ground.data }], guard := none }) rfl (fun K hK => ?_) AllReadyH.nil)
          go_simp
          refine HDI.out.mono ?_
          rintro e x7 ⟨rfl, hb7⟩
          have g7 := HKB.out x7 hb7
          have HB7 := Lib.hid hb7
          clear hb7
          go_wp2_with fail
          refine hK.out _ _ g7 (fun _ => ?_)
          clear hK K
          refine wpAnyH_take (i := 6) (oi := { dst := some 13, op := Op.assign (Operand.tmp 41), type := 3, pos := "ref.go:133", after := #[{ on := 5, ground := Ground.data }, { on := 5, ground := Ground.chain }, { on := 0, ground := Ground.phase }, { on := 1, ground := Ground.phase }, { on := 2, ground := Ground.phase }, { on := 3, ground := Ground.phase }, { on := 4, ground := Ground.phase }, { on := 5, ground := Ground.phase }], guard := none }) (v := ?vq76) rfl (by kernel_rfl) (by kernel_rfl) (by kernel_rfl) (fun _ _ _ h => h) (Or.inl ⟨by rfl, ?yq76⟩) g7 ?_
          case yq76 =>
            intro w hSw
            go_simp; all_goals (with_reducible rfl)
          simp only [Act.put, List.setIfInBounds_toArray, List.set_cons_zero, List.set_cons_succ]
          refine wpAnyH_done (by kernel_rfl) ?_ _

          clear hS hS6 HKB HDI
          have HM7 := Lib.hid ((HM6.out.drewN 1).below HB7.out)
          have HBB7 : Hid (Below W6.heap.size W6 x7) := Lib.hid (below_drewN (Below.refl _ _) 1 |>.trans HB7.out)
          obtain ⟨Pl7, vR7, vP7, hC7, hba7, hbc7⟩ := (HM7.out.drewN 1).bec
          have HBE := Lib.hid (becomes_sy2 (s := s) hC7 hba7 HST.out.1 HK2.out.1 HK2.out.2.1)
          have HBC := Lib.hid hbc7
          have hnC : R ≠ C ∧ bx ≠ C := by
            have h1 := HM7.out.apartS (g := bx) ((HBB7.out.block bx hlt6).trans HBOX.out)
            obtain ⟨_, _, _, _, _, hC, _, _, _, _, hY7⟩ := HM7.out.ex
            refine ⟨qrow_ne HM7.out.rbox hC.box (by decide), fun e => h1 ?_⟩
            rw [hY7, e]; simp
          have hlt7 : bx < x7.heap.size := Nat.lt_of_lt_of_le hlt6 HBB7.out.size
          have HKC : Hid (∀ w2, Only [C] x7.drew w2 → w2.cell? ⟨R, 1, none⟩ = some (PF C) ∧ w2.cell? ⟨bx, 0, none⟩ = some (.int .i64 (s.k : Nat)) ∧ w2.cell? ⟨bx, 1, none⟩ = some (.int .u8 (s.b.toNat : Nat)) ∧ w2.cell? ⟨bx, 2, none⟩ = some (.int .i64 (s.l : Nat)) ∧ w2.cell? ⟨bx, 3, none⟩ = some (.int .i64 (s.d : Nat)) ∧ w2.cell? ⟨bx, 4, none⟩ = some (.int .i64 (s.r : Nat))) := Lib.hid (fun w2 ho =>
            ⟨cell_only ho (by simpa using hnC.1) g7.1, cell_only ho (by simpa using hnC.2) g7.2.1, cell_only ho (by simpa using hnC.2) g7.2.2.1, cell_only ho (by simpa using hnC.2) g7.2.2.2.1, cell_only ho (by simpa using hnC.2) g7.2.2.2.2.1, cell_only ho (by simpa using hnC.2) g7.2.2.2.2.2⟩)
          have hS7 : x7.drew.cell? ⟨R, 1, none⟩ = some (PF C) ∧ x7.drew.cell? ⟨bx, 0, none⟩ = some (.int .i64 (s.k : Nat)) ∧ x7.drew.cell? ⟨bx, 1, none⟩ = some (.int .u8 (s.b.toNat : Nat)) ∧ x7.drew.cell? ⟨bx, 2, none⟩ = some (.int .i64 (s.l : Nat)) ∧ x7.drew.cell? ⟨bx, 3, none⟩ = some (.int .i64 (s.d : Nat)) ∧ x7.drew.cell? ⟨bx, 4, none⟩ = some (.int .i64 (s.r : Nat)) := g7
          clear hC7 hba7 hbc7 g7
          go_upto_region 8 with fail
          refine wp_region_held_drew (S := fun w2 => w2.cell? ⟨R, 1, none⟩ = some (PF C) ∧ w2.cell? ⟨bx, 0, none⟩ = some (.int .i64 (s.k : Nat)) ∧ w2.cell? ⟨bx, 1, none⟩ = some (.int .u8 (s.b.toNat : Nat)) ∧ w2.cell? ⟨bx, 2, none⟩ = some (.int .i64 (s.l : Nat)) ∧ w2.cell? ⟨bx, 3, none⟩ = some (.int .i64 (s.d : Nat)) ∧ w2.cell? ⟨bx, 4, none⟩ = some (.int .i64 (s.r : Nat))) (by kernel_rfl) hS7 (fun hS => ?_)
          refine wpAnyH_take (i := 0) (oi := { dst := some 42, op := Op.move (Operand.tmp 0), type := 37, pos := "ref.go:134", after := #[], guard := none }) (v := ?vq87) rfl (by kernel_rfl) (by kernel_rfl) (by kernel_rfl) (fun _ _ _ h => h) (Or.inl ⟨by rfl, ?yq87⟩) hS ?_
          case yq87 =>
            intro w hSw
            go_simp; all_goals (with_reducible rfl)
          simp only [Act.put, List.setIfInBounds_toArray, List.set_cons_zero, List.set_cons_succ]
          refine wpAnyH_take (i := 1) (oi := { dst := some 43, op := Op.nilCheck (Operand.tmp 42), type := 0, pos := "ref.go:134", after := #[{ on := 0, ground := Ground.data }], guard := none }) (v := ?vq88) rfl (by kernel_rfl) (by kernel_rfl) (by kernel_rfl) (fun _ _ _ h => h) (Or.inl ⟨by rfl, ?yq88⟩) hS ?_
          case yq88 =>
            intro w hSw
            go_simp; all_goals (with_reducible rfl)
          simp only [Act.put, List.setIfInBounds_toArray, List.set_cons_zero, List.set_cons_succ]
          refine wpAnyH_take (i := 2) (oi := { dst := some 44, op := Op.fieldAddr 41 (Operand.tmp 43) 1, type := 0, pos := "ref.go:134", after := #[{ on := 1, ground := Ground.data }], guard := none }) (v := ?vq89) rfl (by kernel_rfl) (by kernel_rfl) (by kernel_rfl) (fun _ _ _ h => h) (Or.inl ⟨by rfl, ?yq89⟩) hS ?_
          case yq89 =>
            intro w hSw
            go_simp; all_goals (with_reducible rfl)
          simp only [Act.put, List.setIfInBounds_toArray, List.set_cons_zero, List.set_cons_succ]
          refine wpAnyH_take (i := 3) (oi := { dst := some 45, op := Op.load 38 (Operand.tmp 44), type := 38, pos := "ref.go:134", after := #[{ on := 2, ground := Ground.data }], guard := none }) (v := ?vq810) rfl (by kernel_rfl) (by kernel_rfl) (by kernel_rfl) (fun _ _ _ h => h) (Or.inl ⟨by rfl, ?yq810⟩) hS ?_
          case yq810 =>
            intro w hSw
            obtain ⟨q0, q1, q2, q3, q4, q5⟩ := hSw
            go_simp; all_goals (with_reducible rfl)
          simp only [Act.put, List.setIfInBounds_toArray, List.set_cons_zero, List.set_cons_succ]
          refine wpAnyH_take (i := 4) (oi := { dst := some 46, op := Op.load 58 (Operand.tmp 12), type := 58, pos := "ref.go:134", after := #[], guard := none }) (v := ?vq811) rfl (by kernel_rfl) (by kernel_rfl) (by kernel_rfl) (fun _ _ _ h => h) (Or.inl ⟨by rfl, ?yq811⟩) hS ?_
          case yq811 =>
            intro w hSw
            obtain ⟨q0, q1, q2, q3, q4, q5⟩ := hSw
            go_simp; all_goals (with_reducible rfl)
          simp only [Act.put, List.setIfInBounds_toArray, List.set_cons_zero, List.set_cons_succ]
          refine wpAnyH_ready (rs := [5]) (by kernel_rfl) (by simp) ?_
          refine (AllReadyH.cons (o := { dst := some 47, op := Op.call { callee := Callee.value (Operand.func 22), args := #[Operand.tmp 45, Operand.tmp 46], argTypes := #[38, 58] }, type := 0, pos := "ref.go:134", after := #[{ on := 3, ground := Ground.data }, { on := 4, ground := Ground.data }], guard := none }) rfl (fun K hK => ?_) AllReadyH.nil)
          go_simp
          refine HBE.out.mono ?_
          rintro e x8 hbe
          obtain ⟨rfl, hon8, Y8, hM8, hY8⟩ := HBC.out _ _ _ _ hbe
          have g8 := HKC.out x8 hon8
          have HON8 := Lib.hid hon8
          have HM8 := Lib.hid (And.intro hM8 hY8)
          clear hbe hon8 hM8 hY8
          go_wp2_with fail
          refine hK.out _ _ g8 (fun _ => ?_)
          clear hK K
          refine wpAnyH_done (by kernel_rfl) ?_ _

          clear hS hS7 HBE HBC HKC
          obtain ⟨_, z0, z1, z2, z3, z4⟩ := g8
          clear z3 z4
          have HAFO := HAF.out
          have HM9 : Hid (RD x8 R C base h b off cc N L (lc : Nat) (lp : Nat) (pb : Nat) (st' : Nat) r' y' Y8) := Lib.hid (by
            have h0 := HM8.out.1
            rw [← HAFO.1, ← HAFO.2.1] at h0
            exact h0)
          have hCY : C ∈ Y' := by
            obtain ⟨_, _, _, _, _, _, _, _, _, _, hY6⟩ := HM6.out.ex
            rw [hY6]; simp
          have hO7 : Own w.heap.size x7 (.slice AT T.length cT) T := HO6.out.below HBB7.out
          have HO8 : Hid (Own w.heap.size x8 (.slice AT T.length cT) T) := Lib.hid (hO7.keepB fun g e => by
            have h1 := hO7.from_base g e
            obtain ⟨cs, hcs⟩ := hO7.row e
            have h2 := HM7.out.apart hcs
            exact HON8.out.block g h1.2 (fun hm => h2 (by simp only [List.mem_cons, List.not_mem_nil, or_false] at hm; rw [hm]; exact hCY)))
          have hon7 : Only Y w x7 := HON6.out.fresh (HBB7.out.mono HON6.out.size)
          have HONX : Hid (Only Y w x8 ∧ ∀ i ∈ Y8, i ∈ Y ∨ w.heap.size ≤ i) := Lib.hid ⟨hon7.sub (Only.undrew HON8.out) (fun i hi => by simp only [List.mem_cons, List.not_mem_nil, or_false] at hi; rw [hi]; exact HON.out.2 C hCY), fun i hi => by
            rcases HM8.out.2 i hi with h1 | h1
            · exact HON.out.2 i h1
            · exact .inr (Nat.le_trans hon7.size h1)⟩
          have hrg : rGood r' := by rw [HAFO.1]; exact rGood_after HST.out.2.1 HK2.out.2.2.2.1 HK2.out.2.2.2.2
          have hst12 : st' < 12 := stateAfter_lt HST.out.1 HAFO.2.1
          have HST8 : Hid (st' < 12 ∧ rGood r' ∧ (decIo gd o cap L).ok y'.2 0) := Lib.hid ⟨hst12, hrg, HOK5.out⟩
          have hbkk : ∃ bk : Nat, BK = (bk : Int) ∧ (s.k = 0 → bk = 0) ∧ (s.k ≠ 0 → BK = r'.1) ∧ bk ≤ 4294967296 ∧ (s.k ≠ 0 → 1 ≤ bk) := by
            by_cases hk0 : s.k = 0
            · refine ⟨0, ?_, fun _ => rfl, fun h => absurd hk0 h, by omega, fun h => absurd hk0 h⟩
              rw [← HBK.out, hk0]; rfl
            · have e := HAFO.2.2.1 hk0
              rw [HBK.out] at e
              have h1 := hrg.1.1
              have h2 := hrg.2.1
              exact ⟨r'.1.toNat, by omega, fun h => absurd h hk0, fun _ => e, by omega, fun _ => by omega⟩
          obtain ⟨bk, hbk, hbk0, hbkr, hbkl, hbk1⟩ := hbkk
          have HBKF := Lib.hid (And.intro hbk (And.intro hbk0 (And.intro hbkr hbk1)))
          have hbki : (bk : Int) ≤ 4294967296 := by omega
          have hsl : (s.l : Int) ≤ 273 := by have := HK2.out.2.2.1; omega
          obtain ⟨FT, hFT⟩ : ∃ FT, F - T.length = FT := ⟨_, rfl⟩
          have hFTi : (F : Int) - (T.length : Int) = (FT : Int) := by have := HEND.out; omega
          have HFT := Lib.hid hFT
          rw [hbk]
          have hbx8 : x8.heap[bx]? = some (.cells [Value.int .i64 (s.k : Nat), .int .u8 (s.b.toNat : Nat), .int .i64 (s.l : Nat), .int .i64 (s.d : Nat), .int .i64 (s.r : Nat)].toArray 58 (0, 0)) :=
            (HON8.out.block bx hlt7 (by simpa using hnC.2)).trans ((HBB7.out.block bx hlt6).trans HBOX.out)
          have HBX8 : Hid (x8.heap[bx]? = some (.cells [Value.int .i64 (s.k : Nat), .int .u8 (s.b.toNat : Nat), .int .i64 (s.l : Nat), .int .i64 (s.d : Nat), .int .i64 (s.r : Nat)].toArray 58 (0, 0)) ∧ ∀ w2, Adds w.heap.size x8 w2 → w2.heap[bx]? = x8.heap[bx]?) := Lib.hid ⟨hbx8, fun w2 h2 => h2.keep bx (Array.getElem?_eq_some_iff.1 hbx8).1 (fun cs hcs => by
            rw [hbx8] at hcs
            injection hcs with hcs
            injection hcs with _ e _
            exact absurd e (by decide))⟩
          clear HAFO hCY hO7 hon7 hbx8 hrg hst12 hbk hbk0 hbkr hbkl hbk1 hFT hlt6 hlt7 hnC
          by_cases hbad : T.length < bk ∨ dict < (bk : Int) ∨ FT < s.l
          · have hk0 : s.k ≠ 0 := fun hk => by
              have h1 := HBKF.out.2.1 hk
              have h2 := HAF.out.2.2.2 hk
              rcases hbad with h | h | h <;> omega
            have hres : RES = none := by
              rw [← HU.out]
              refine uread_bad HEND.out HTS.out hk0 ?_
              have h1 := HBKF.out.2.2.1 hk0
              rw [HBKF.out.1] at h1
              have := HFT.out
              rcases hbad with h | h | h
              · left; omega
              · left; omega
              · right; omega
            have HRN := Lib.hid hres
            clear hres
            by_cases h1 : T.length < bk
            · have h1b : decide ((T.length : Int) < (bk : Int)) = true := decide_eq_true (by omega)
              clear hbad
              go_wp2_with fail
              go_ret2
              rw [HRN.out]
              exact ⟨rfl, HONX.out.1⟩
            · have h1b : decide ((T.length : Int) < (bk : Int)) = false := decide_eq_false (by omega)
              by_cases h2 : dict < (bk : Int)
              · have h2b : decide (dict < (bk : Int)) = true := decide_eq_true h2
                clear hbad
                go_wp2_with fail
                go_ret2
                rw [HRN.out]
                exact ⟨rfl, HONX.out.1⟩
              · have h2b : decide (dict < (bk : Int)) = false := decide_eq_false h2
                have h3 : FT < s.l := by rcases hbad with h | h | h <;> omega
                have h3b : decide ((FT : Int) < (s.l : Int)) = true := decide_eq_true (by omega)
                clear hbad
                go_wp2_with fail
                go_ret2
                rw [HRN.out]
                exact ⟨rfl, HONX.out.1⟩
          · have h1b : decide ((T.length : Int) < (bk : Int)) = false := decide_eq_false (fun h => hbad (.inl (by omega)))
            have h2b : decide (dict < (bk : Int)) = false := decide_eq_false (fun h => hbad (.inr (.inl h)))
            have h3b : decide ((FT : Int) < (s.l : Int)) = false := decide_eq_false (fun h => hbad (.inr (.inr (by omega))))
            have h1n : ¬ T.length < bk := fun h => hbad (.inl h)
            have h3n : ¬ FT < s.l := fun h => hbad (.inr (.inr h))
            have HGD : Hid (bk ≤ T.length ∧ (bk : Int) ≤ dict ∧ s.l ≤ FT) := Lib.hid ⟨by omega, by omega, by omega⟩
            clear hbad
            obtain ⟨T1, hT1'⟩ : ∃ T1, (if s.k = 0 then T ++ [s.b] else T) = T1 := ⟨_, rfl⟩
            have HT1 := Lib.hid hT1'
            have HU2 : Hid (uread gd o cap L lc lp pb dict F gk (growN T1 bk s.l) st' r' y' = RES) := Lib.hid (by
              rw [← HU.out, ← HT1.out]
              by_cases hk0 : s.k = 0
              · rw [if_pos hk0, HAF.out.2.2.2 hk0]
                exact (uread_lit HEND.out HTS.out HOF.out hk0).symm
              · rw [if_neg hk0]
                have h1 := HBKF.out.2.2.1 hk0
                rw [HBKF.out.1] at h1
                have h2 := uread_far (gd := gd) (o := o) (cap := cap) (L := L) (lc := lc) (lp := lp) (pb := pb) (dict := dict) (fin := F) (f := gk) HEND.out HTS.out HOF.out hk0 (by have := HGD.out; have := HFT.out; omega)
                rw [← h1, Int.toNat_natCast] at h2
                exact h2.symm)
            have hT1l : T.length ≤ T1.length ∧ T1.length ≤ T.length + 1 := by
              rw [← hT1']
              split
              · rw [List.length_append, List.length_singleton]; omega
              · omega
            have HTL : Hid (T1.length + s.l ≤ F ∧ T.length + 1 ≤ T1.length + s.l ∧ (s.l ≠ 0 → 1 ≤ bk ∧ bk ≤ T1.length)) := Lib.hid (by
              have h1 := HFT.out
              have h2 := HGD.out
              have h3 := HEND.out
              by_cases hk0 : s.k = 0
              · have h4 := HAF.out.2.2.2 hk0
                have h5 : T1.length = T.length + 1 := by rw [← hT1', if_pos hk0, List.length_append, List.length_singleton]
                exact ⟨by omega, by omega, fun h => absurd h4 h⟩
              · have h4 := HBKF.out.2.2.2 hk0
                have h6 : 1 ≤ s.l := by
                  have h := sym_lpos (io := decIo gd o cap L) (lc := lc) (lp := lp) (pb := pb) (st := st) (r := r) (H := T) (k := 0) (b := 0) (l := 0) (d := 0) (q := 0) (x := y)
                  rw [HTS.out] at h
                  exact h hk0
                have h5 : T1.length = T.length := by rw [← hT1', if_neg hk0]
                exact ⟨by omega, by omega, fun _ => ⟨by omega, by omega⟩⟩)
            have hszw : w.heap.size ≤ x8.heap.size := HONX.out.1.size
            clear hT1' hT1l
            go_upto_if 68 with fail
            go_cut [10] from 22 to 89 (fun s10 wx => ∃ vv, vv = s10 ∧ Hid (Own w.heap.size wx vv T1) ∧ Hid (Adds w.heap.size x8 wx))
            case first =>
              by_cases hk0 : s.k = 0
              · have hk0b : (((s.k : Nat) : Int) == 0) = true := by rw [hk0]; rfl
                obtain ⟨W8, hW8⟩ : ∃ W, x8.alloc (.cells #[.int .u8 (s.b.toNat : Nat)] 5) = W := ⟨_, rfl⟩
                have hb8 : Adds w.heap.size x8 W8 := by rw [← hW8]; exact (Adds.refl _ _).alloc hszw _
                have ho8 : Own w.heap.size W8 (.slice AT T.length cT) T := by rw [← hW8]; exact HO8.out.alloc _
                have hx8 : Bytes W8 (some ⟨x8.heap.size, 0, none⟩) [s.b] := by rw [← hW8]; exact lit_bytes x8 s.b
                have HT1b : Hid (T ++ [s.b] = T1) := Lib.hid (by rw [← HT1.out, if_pos hk0])
                have HW8 := Lib.hid hW8
                have HB8 := Lib.hid hb8
                have HOO8 := Lib.hid ho8
                have HX8 := Lib.hid hx8
                have hsz8 : Hid (w.heap.size ≤ W8.heap.size) := Lib.hid (Nat.le_trans hszw hb8.below.size)
                have HT2M : Hid (T.length ≤ 2000000) := Lib.hid (by omega)
                clear hW8 hb8 ho8 hx8 hk0
                go_wp2_with (at_builtin; rw [HW8.out]; refine wpList_append_bytes rfl (.tmp 69) (.tmp 72) rfl w.heap.size W8 _ T rfl HOO8.out (some ⟨x8.heap.size, 0, none⟩) [s.b] 1 rfl HX8.out (by have := HT2M.out; simp; omega) hsz8.out ?_; intro v9 w9 ho9 hg9; have HO9 : Hid (Own w.heap.size w9 v9 T1) := Lib.hid (by rw [← HT1b.out]; exact ho9); have HB9 := Lib.hid (HB8.out.grown HOO8.out hg9 hsz8.out); clear ho9 hg9)
                go_meet
                exact ⟨_, rfl, HO9, HB9⟩
              · have hk0b : (((s.k : Nat) : Int) == 0) = false := beq_eq_false_iff_ne.2 (by omega)
                have HT1b : Hid (T = T1) := Lib.hid (by rw [← HT1.out, if_neg hk0])
                clear hk0
                go_wp2_with fail
                go_meet
                exact ⟨_, rfl, Lib.hid (by rw [← HT1b.out]; exact HO8.out), Lib.hid (Adds.refl _ _)⟩
            case rest =>
              obtain ⟨v, rfl, HOc, HAc⟩ := hcut
              go_wp2_with fail
              go_loopw [10, 14] (fun v i wr2 => ∃ (n : Nat) (vv : Value), n ≤ s.l ∧ vv = v ∧ i = .int .i64 (n : Nat) ∧ Hid (Own w.heap.size wr2 vv (growN T1 bk n)) ∧ Hid (Adds w.heap.size x8 wr2)) (fun _ i _ => s.l - (intOf i).toNat)
              case atStart => exact ⟨0, _, Nat.zero_le _, rfl, rfl, HOc, HAc⟩
              case round =>
                obtain ⟨n, v, hn, rfl, rfl, HO, HAW⟩ := hrel
                have z2w : wr.cell? ⟨bx, 2, none⟩ = some (.int .i64 (s.l : Nat)) := by rw [cell_of_row wr _ _ _ _ _ ((HBX8.out.2 wr HAW.out).trans HBX8.out.1)]; rfl
                by_cases hnl : n < s.l
                · have hni : (n : Int) < (s.l : Int) := by omega
                  have hnb : decide ((n : Int) < (s.l : Int)) = true := decide_eq_true hni
                  have hbkT := HTL.out.2.2 (by omega)
                  have hbkl1 := hbkT.1
                  have hbkl2 := hbkT.2
                  have HTL1 := HTL.out.1
                  obtain ⟨T2, hT⟩ : ∃ T2, growN T1 bk n = T2 := ⟨_, rfl⟩
                  have hTl : T2.length = T1.length + n := by rw [← hT]; exact growN_length T1 bk n
                  rw [hT] at HO
                  obtain ⟨A2, c2, rfl, hc2, hm2, hB2⟩ := HO.out.read
                  have hLi : (T2.length : Int) ≤ 2000000 := by omega
                  have hc2i : (T2.length : Int) ≤ (c2 : Int) := by omega
                  obtain ⟨x, hx⟩ : ∃ x, T2.length - bk = x := ⟨_, rfl⟩
                  have hxi : (T2.length : Int) - (bk : Int) = (x : Int) := by omega
                  have hxl : (x : Int) < (T2.length : Int) := by omega
                  obtain ⟨g, off2, rfl, _, hat⟩ := hB2.addr (by omega)
                  have cx := hat x (by omega)
                  have e1 := getD_of (d := T2) (i := x) (by omega)
                  rw [← e1] at cx
                  have HSUC : Hid (growN T1 bk (n + 1) = T2 ++ [T2.getD x 0]) := Lib.hid (by unfold growN; rw [hT, hx])
                  generalize T2.getD x 0 = u at *
                  obtain ⟨W4, hW4⟩ : ∃ W4, wr.alloc (.cells #[.int .u8 (u.toNat : Nat)] 5) = W4 := ⟨_, rfl⟩
                  have hbw : w.heap.size ≤ wr.heap.size := Nat.le_trans hszw HAW.out.below.size
                  have hb4 : Adds w.heap.size x8 W4 := by rw [← hW4]; exact HAW.out.alloc hbw _
                  have ho4 : Own w.heap.size W4 (.slice (some ⟨g, off2, none⟩) T2.length c2) T2 := by rw [← hW4]; exact HO.out.alloc _
                  have hx4 : Bytes W4 (some ⟨wr.heap.size, 0, none⟩) [u] := by rw [← hW4]; exact lit_bytes wr u
                  have hb4s : w.heap.size ≤ W4.heap.size := by rw [← hW4]; simp; omega
                  have HW4 := Lib.hid hW4
                  have HB4 := Lib.hid hb4
                  have HB4S := Lib.hid hb4s
                  have HO4 := Lib.hid ho4
                  have HX4 := Lib.hid hx4
                  have HTL2 : Hid (T2.length ≤ 2000000) := Lib.hid (by omega)
                  clear hW4 hb4 ho4 hx4 hT hTl hc2 hm2 hB2 hx hat e1 hbw hb4s hbkT hbkl1 hbkl2 HTL1
                  go_wp2_with (at_builtin; rw [HW4.out]; refine wpList_append_bytes rfl (.tmp 80) (.tmp 88) rfl w.heap.size W4 _ T2 rfl HO4.out (some ⟨wr.heap.size, 0, none⟩) [u] 1 rfl HX4.out (by have := HTL2.out; simp; omega) HB4S.out ?_; intro v5 w5 ho5 hg5; have HO5 : Hid (Own w.heap.size w5 v5 (growN T1 bk (n + 1))) := Lib.hid (by rw [HSUC.out]; exact ho5); have HB5 := Lib.hid (HB4.out.grown HO4.out hg5 HB4S.out); clear ho5 hg5)
                  exact ⟨⟨n + 1, _, by omega, rfl, by go_num, HO5, HB5⟩, by simp [intOf]; omega⟩
                · obtain rfl : n = s.l := by omega
                  have hnb : decide (((s.l : Nat) : Int) < ((s.l : Nat) : Int)) = false := decide_eq_false (by omega)
                  go_wp2_with fail
                  go_roundg gk
                  case measure => omega
                  case rel =>
                    have hgl := growN_length T1 bk s.l
                    refine ⟨growN T1 bk s.l, st', r', y', Y8, v, rfl, ?_, ?_, ?_, HO, HU2, Lib.hid (HM9.out.adds HAW.out HM0.out.lt.2.2), HST8, Lib.hid ⟨HONX.out.1.fresh HAW.out.below, HONX.out.2⟩⟩ <;> rw [hgl] <;> (have h1 := HTL.out; have h2 := HTB.out; omega)
    · have hres : RES = some (T, st, r, y) := by rw [← HU.out]; exact uread_end (by omega)
      have HRN := Lib.hid hres
      have hendb : decide ((T.length : Int) < (F : Int)) = false := decide_eq_false (by omega)
      have hBF := hBT.cutFrom hT1 hcT
      have hfr : ¬ T.length < F := hend
      have hT1i : (H.length : Int) ≤ (T.length : Int) := by omega
      obtain ⟨AF, hAF⟩ : ∃ AF, (if cT = H.length then AT else AT.map (·.add H.length)) = AF := ⟨_, rfl⟩
      rw [hAF] at hBF
      have HAF := Lib.hid hAF
      have HBF := Lib.hid hBF
      clear hres hBF hAF hBT
      go_wp2_with fail
      all_goals
        go_ret2
        rw [HRN.out]
      · refine ⟨AF, 0, ?_, by omega, by omega, HBF.out, _, HM.out, HON.out.1⟩
        rw [← HAF.out, if_pos (by first | assumption | omega)]; rfl
      · refine ⟨AF, cT - H.length, ?_, by omega, by omega, HBF.out, _, HM.out, HON.out.1⟩
        rw [← HAF.out, if_neg (by assumption)]; rfl
end Go.Proofs.Ytdkimllfpiphgaa

/- What the law UnmodelReads begins with. -/
namespace Go.Proofs.Ytdkimllfpiphgaa
open Go.RowKit

set_option maxRecDepth 100000 in
set_option maxHeartbeats 1000000 in
theorem repeats_same (r : R4) (g cap : Nat) (w : World) (hc : 4 ≤ cap) (c0 : w.cell? ⟨g, 0, none⟩ = some (.int .i64 r.1)) (c1 : w.cell? ⟨g, 1, none⟩ = some (.int .i64 r.2.1)) (c2 : w.cell? ⟨g, 2, none⟩ = some (.int .i64 r.2.2.1)) (c3 : w.cell? ⟨g, 3, none⟩ = some (.int .i64 r.2.2.2)) :
    Calls Try.prog 14 #[r.val, .slice (some ⟨g, 0, none⟩) 4 cap] w (Tells (.bool true) w) := by
  obtain ⟨a, b, c, d⟩ := r
  simp only at c0 c1 c2 c3
  have hgl := block_lt_of_cell c0
  simp only at hgl
  obtain ⟨W1, hW1⟩ : ∃ W1, w.alloc (.cells #[.int .i64 a, .int .i64 b, .int .i64 c, .int .i64 d] 50) = W1 := ⟨_, rfl⟩
  have hb1 : Below w.heap.size w W1 := by rw [← hW1]; exact (Below.refl _ _).alloc (Nat.le_refl _) _
  have hrow : W1.heap[w.heap.size]? = some (.cells [Value.int .i64 a, .int .i64 b, .int .i64 c, .int .i64 d].toArray 50 (0, 0)) := by rw [← hW1]; exact heap_alloc_last _ _
  have x0 : W1.cell? ⟨w.heap.size, 0, none⟩ = some (.int .i64 a) := by rw [cell_of_row W1 _ _ _ _ _ hrow]; rfl
  have x1 : W1.cell? ⟨w.heap.size, 1, none⟩ = some (.int .i64 b) := by rw [cell_of_row W1 _ _ _ _ _ hrow]; rfl
  have x2 : W1.cell? ⟨w.heap.size, 2, none⟩ = some (.int .i64 c) := by rw [cell_of_row W1 _ _ _ _ _ hrow]; rfl
  have x3 : W1.cell? ⟨w.heap.size, 3, none⟩ = some (.int .i64 d) := by rw [cell_of_row W1 _ _ _ _ _ hrow]; rfl
  have y0 := (hb1.cell (p := ⟨g, 0, none⟩) hgl).trans c0
  have y1 := (hb1.cell (p := ⟨g, 1, none⟩) hgl).trans c1
  have y2 := (hb1.cell (p := ⟨g, 2, none⟩) hgl).trans c2
  have y3 := (hb1.cell (p := ⟨g, 3, none⟩) hgl).trans c3
  have HX := Lib.hid (And.intro x0 (And.intro x1 (And.intro x2 x3)))
  have HY := Lib.hid (And.intro y0 (And.intro y1 (And.intro y2 y3)))
  have HW1 := Lib.hid hW1
  have HB1 := Lib.hid hb1
  have hci : (4 : Int) ≤ (cap : Int) := by omega
  clear hW1 hb1 hrow x0 x1 x2 x3 y0 y1 y2 y3 c0 c1 c2 c3
  go_enter Try.func14, Try.ntmps14
  go_upto_region 1 with fail
  rw [HW1.out]
  go_wp2_with fail
  go_loopw [5] (fun i wr => ∃ n : Int, 0 ≤ n ∧ n ≤ 4 ∧ i = .int .i64 n ∧ Hid (Below W1.heap.size W1 wr)) (fun i _ => 4 - (intOf i).toNat)
  case atStart => exact ⟨0, by omega, by omega, rfl, Lib.hid (Below.refl _ _)⟩
  case round =>
    obtain ⟨n, hn0, hn, rfl, HBW⟩ := hrel
    have hl1 : g < W1.heap.size := Nat.lt_of_lt_of_le hgl HB1.out.size
    have hl2 : w.heap.size < W1.heap.size := block_lt_of_cell HX.out.1
    have hnn : n = 0 ∨ n = 1 ∨ n = 2 ∨ n = 3 ∨ n = 4 := by omega
    clear hn0 hn
    rcases hnn with rfl | rfl | rfl | rfl | rfl
    · have x0 := (HBW.out.cell (p := ⟨w.heap.size, 0, none⟩) hl2).trans HX.out.1
      have y0 := (HBW.out.cell (p := ⟨g, 0, none⟩) hl1).trans HY.out.1
      go_wp2_with fail
      go_region
      go_wp2_with fail
      exact ⟨⟨1, by omega, by omega, rfl, Lib.hid HBW.out.drew⟩, by simp [intOf]⟩
    · have x1 := (HBW.out.cell (p := ⟨w.heap.size, 1, none⟩) hl2).trans HX.out.2.1
      have y1 := (HBW.out.cell (p := ⟨g, 1, none⟩) hl1).trans HY.out.2.1
      go_wp2_with fail
      go_region
      go_wp2_with fail
      exact ⟨⟨2, by omega, by omega, rfl, Lib.hid HBW.out.drew⟩, by simp [intOf]⟩
    · have x2 := (HBW.out.cell (p := ⟨w.heap.size, 2, none⟩) hl2).trans HX.out.2.2.1
      have y2 := (HBW.out.cell (p := ⟨g, 2, none⟩) hl1).trans HY.out.2.2.1
      go_wp2_with fail
      go_region
      go_wp2_with fail
      exact ⟨⟨3, by omega, by omega, rfl, Lib.hid HBW.out.drew⟩, by simp [intOf]⟩
    · have x3 := (HBW.out.cell (p := ⟨w.heap.size, 3, none⟩) hl2).trans HX.out.2.2.2
      have y3 := (HBW.out.cell (p := ⟨g, 3, none⟩) hl1).trans HY.out.2.2.2
      go_wp2_with fail
      go_region
      go_wp2_with fail
      exact ⟨⟨4, by omega, by omega, rfl, Lib.hid HBW.out.drew⟩, by simp [intOf]⟩
    · go_wp2_with fail
      go_ret
      exact ⟨rfl, HB1.out.trans (HBW.out.mono HB1.out.size)⟩
theorem uread_cut {gd o cap : Nat} {L : List UInt8} {lc lp pb : Nat} {dict : Int} (hlp : lp ≤ 4) (hpb : pb ≤ 4) (H : List UInt8) (many : Nat) (y : PD) :
    uread gd o cap L lc lp pb dict (H.length - cutOf H.length (max dict 1) + many) many (H.drop (cutOf H.length (max dict 1))) 0 (1, 1, 1, 1) y = (uread gd o cap L lc lp pb dict (H.length + many) many H 0 (1, 1, 1, 1) y).map fun q => (q.1.drop (cutOf H.length (max dict 1)), q.2) := by
  have hle := cutOf_le H.length (show 0 ≤ max dict 1 by omega)
  have hu := uread_trim (gd := gd) (o := o) (cap := cap) (L := L) (lc := lc) (lp := lp) (pb := pb) (cut := cutOf H.length (max dict 1)) (dict := dict) (fin := H.length - cutOf H.length (max dict 1) + many) hlp hpb many H 0 (1, 1, 1, 1) y ⟨by decide, by decide, by decide, by decide⟩ (by
    unfold cutOf
    generalize hx : (max ((H.length : Int) - max dict 1) 0).toNat = x
    by_cases h0 : x / 16 * 16 = 0
    · exact .inl h0
    · refine .inr ⟨by omega, ?_, ?_, ?_⟩
      · omega
      · show (1 : Int) ≤ _
        omega
      · omega)
  rw [hu, show H.length - cutOf H.length (max dict 1) + many + cutOf H.length (max dict 1) = H.length + many by omega]
theorem uread_len {gd o cap : Nat} {L : List UInt8} {lc lp pb : Nat} {dict : Int} {fin : Nat} : ∀ (f : Nat) (T : List UInt8) (st : Nat) (r : R4) (y : PD) {q : List UInt8 × Nat × R4 × PD}, uread gd o cap L lc lp pb dict fin f T st r y = some q → T.length ≤ q.1.length
  | 0, T, st, r, y, q, h => by
    unfold uread at h
    split at h
    · injection h with h; rw [← h]; exact Nat.le_refl _
    · cases h
  | f + 1, T, st, r, y, q, h => by
    unfold uread at h
    split at h
    · injection h with h; rw [← h]; exact Nat.le_refl _
    · split at h
      · cases h
      · split at h
        · have := uread_len f _ _ _ _ h
          rw [List.length_append] at this
          omega
        · split at h
          · cases h
          · have := uread_len f _ _ _ _ h
            rw [growN_length] at this
            omega
theorem Bytes.notDec {w : World} {A : Option Addr} {l : List UInt8} (hB : Bytes w A l) (hl : l ≠ []) {h b off cc : Nat} {L : List UInt8} {s : Rd.St} (hD : RDecIs w h b off cc L s) : ∀ a, A = some a → a.block ≠ h := by
  rintro a rfl e
  obtain ⟨x, z, _, hT⟩ := hD
  rcases hB with h0 | ⟨b', off', e1, _, hc⟩
  · exact hl h0
  · injection e1 with e1
    subst e1
    subst e
    have h1 := hc 0 (by cases l with | nil => exact absurd rfl hl | cons a l => simp)
    rw [cell_of_row w _ _ _ _ _ hT.blk] at h1
    simp only [Nat.add_zero] at h1
    rcases (by omega : off' = 0 ∨ off' = 1 ∨ off' = 2 ∨ off' = 3 ∨ off' = 4 ∨ 5 ≤ off') with rfl | rfl | rfl | rfl | rfl | h5
    · simp at h1
    · simp at h1
    · simp at h1
    · simp at h1
    · simp at h1
    · rw [Array.getElem?_eq_none (by simpa using h5)] at h1
      cases h1
theorem rd_start {w w4 w5 w6 : World} {C lc lp pb h b off cc R : Nat} {L : List UInt8} {s : Rd.St} {vR vP : Value} (hC : CodAt w5 C w4.heap.size lc lp pb 0 (1, 1, 1, 1) (List.replicate (2180 + 768 * 2 ^ (lc + lp)) 1024) vR vP) (hC0 : w4.heap.size ≤ C) (hb5 : Below w4.heap.size w4 w5) (hD : RDecIs w4 h b off cc L s) (hbw : b < w.heap.size) (hh : w.heap.size ≤ h) (h4 : w.heap.size ≤ w4.heap.size)
    (h6 : w5.alloc (.cells #[PF h, PF C] 41) = w6) (hR : R = w5.heap.size) :
    ∃ Y, RD w6 R C w4.heap.size h b off cc (2180 + 768 * 2 ^ (lc + lp)) L (lc : Nat) (lp : Nat) (pb : Nat) ((0 : Nat) : Int) (1, 1, 1, 1) (fun _ => 1024, s) Y ∧ ∀ i ∈ Y, i = h ∨ w4.heap.size ≤ i := by
  subst hR
  have hb6 : Below w5.heap.size w5 w6 := by rw [← h6]; exact (Below.refl _ _).alloc (Nat.le_refl _) _
  obtain ⟨gR, capR, eR, hgR, _⟩ := hC.reps.some_of_pos (show 0 < 4 by decide)
  have hlen : ((List.replicate (2180 + 768 * 2 ^ (lc + lp)) 1024).map fun x : Nat => Value.int .u16 (x : Nat)).length = 2180 + 768 * 2 ^ (lc + lp) := by simp
  obtain ⟨gP, capP, eP, hgP, _⟩ := hC.ps.some_of_pos (by rw [hlen]; omega)
  rw [hlen] at eP
  subst eP
  refine ⟨[C, gR, gP, h], ⟨⟨_, vR, gR, gP, capP, hC.below hb6, by rw [eR]; rfl, (hD.below hb5).below hb6, by simp, fun i hi => ?_, rfl⟩, by rw [← h6]; exact heap_alloc_last _ _, ?_, fun i => ⟨show 1 ≤ 1024 by decide, show 1024 ≤ 2047 by decide⟩⟩, ?_⟩
  · rw [List.getElem?_replicate, if_pos hi]
  · intro hm
    simp only [List.mem_cons, List.not_mem_nil, or_false] at hm
    rcases hm with e | e | e | e <;> omega
  · intro i hi
    simp only [List.mem_cons, List.not_mem_nil, or_false] at hi
    rcases hi with rfl | rfl | rfl | rfl
    · exact .inr hC0
    · exact .inr hgR
    · exact .inr hgP
    · exact .inl rfl
open Go.ChangeShapes Go.WideShapes Go.ChangeAt in
theorem trodAll_seven {H : Type} {enc : TypeId × Value → H} {P : Program} {w : World} {base : Nat} {spare : Nat → Bool} {held : Bool} {t t' t'' t3 t4 t5 t6 : TypeId} {args : Array Value} {ds : List (DataW H)} {ps : List MemPlace} (h : DataW.TrodAll enc P w base spare held [t, t', t'', t3, t4, t5, t6] args.toList ds ps) :
    ∃ v v' v'' v3 v4 v5 v6 d d' d'' d3 d4 d5 d6 p p' p'' p3 p4 p5 p6, args = #[v, v', v'', v3, v4, v5, v6] ∧ ds = [d, d', d'', d3, d4, d5, d6] ∧ ps = p ++ p' ++ p'' ++ p3 ++ p4 ++ p5 ++ p6 ∧ DataW.Trod enc P w base spare held t v d p ∧ DataW.Trod enc P w base spare held t' v' d' p' ∧ DataW.Trod enc P w base spare held t'' v'' d'' p'' ∧ DataW.Trod enc P w base spare held t3 v3 d3 p3 ∧ DataW.Trod enc P w base spare held t4 v4 d4 p4 ∧ DataW.Trod enc P w base spare held t5 v5 d5 p5 ∧ DataW.Trod enc P w base spare held t6 v6 d6 p6 := by
  obtain ⟨v, vs, d, ds', p, q, hargs, rfl, rfl, hd, hrest⟩ := trodAll_cons h
  obtain ⟨v', vs', d', ds'', p', q', rfl, rfl, rfl, hd', hrest'⟩ := trodAll_cons hrest
  obtain ⟨v'', vs'', d'', dsq, p'', q'', rfl, rfl, rfl, hd'', hrest''⟩ := trodAll_cons hrest'
  obtain ⟨v3, vs3, d3, ds3, p3, q3, rfl, rfl, rfl, hd3, hrest3⟩ := trodAll_cons hrest''
  obtain ⟨v4, vs4, d4, ds4, p4, q4, rfl, rfl, rfl, hd4, hrest4⟩ := trodAll_cons hrest3
  obtain ⟨v5, vs5, d5, ds5, p5, q5, rfl, rfl, rfl, hd5, hrest5⟩ := trodAll_cons hrest4
  obtain ⟨v6, vs6, d6, ds6, p6, q6, rfl, rfl, rfl, hd6, hrest6⟩ := trodAll_cons hrest5
  obtain ⟨rfl, rfl, rfl⟩ := trodAll_nil hrest6
  exact ⟨v, v', v'', v3, v4, v5, v6, d, d', d'', d3, d4, d5, d6, p, p', p'', p3, p4, p5, p6, by cases args; simp_all, rfl, by simp, hd, hd', hd'', hd3, hd4, hd5, hd6⟩
end Go.Proofs.Ytdkimllfpiphgaa

/- UnmodelReads: for every input the law returns true. -/
namespace Go.Proofs.Ytdkimllfpiphgaa
open Go.RowKit

set_option maxRecDepth 100000 in
set_option maxHeartbeats 8000000 in
theorem reads_law (lc lp pb : Int) (A : Option Addr) (L : List UInt8) (c : Nat) (A1 : Option Addr) (H : List UInt8) (c1 : Nat) (many dict : Int) (w : World) (_ : -9223372036854775808 ≤ lc) (_ : lc ≤ 9223372036854775807) (_ : -9223372036854775808 ≤ lp) (_ : lp ≤ 9223372036854775807) (_ : -9223372036854775808 ≤ pb) (_ : pb ≤ 9223372036854775807)
    (hB : Bytes w A L ∧ ∀ a, A = some a → a.block < w.heap.size) (hc : L.length ≤ c) (hm : c ≤ 9223372036854775807) (hB1 : Bytes w A1 H ∧ ∀ a, A1 = some a → a.block < w.heap.size) (hc1 : H.length ≤ c1) (hm1 : c1 ≤ 9223372036854775807) (hmany1 : -9223372036854775808 ≤ many) (_ : many ≤ 9223372036854775807) (hdict1 : -9223372036854775808 ≤ dict) (hdict : dict ≤ 9223372036854775807) :
    Calls Try.prog 3 #[.int .i64 lc, .int .i64 lp, .int .i64 pb, .slice A L.length c, .slice A1 H.length c1, .int .i64 many, .int .i64 dict] w (Holds w) := by
  have hmi : (L.length : Int) ≤ 9223372036854775807 := by omega
  have hmi1 : (H.length : Int) ≤ 9223372036854775807 := by omega
  by_cases hout : (300 : Int) < (L.length : Int) ∨ (300 : Int) < (H.length : Int) ∨ (600 : Int) < many
  · have hs : ((300 : Int) < (L.length : Int)) ∨ (¬ (300 : Int) < (L.length : Int) ∧ (300 : Int) < (H.length : Int)) ∨ (¬ (300 : Int) < (L.length : Int) ∧ ¬ (300 : Int) < (H.length : Int) ∧ (600 : Int) < many) := by omega
    clear hout hB hB1
    rcases hs with g1 | ⟨g1, g2⟩ | ⟨g1, g2, g3⟩
    all_goals
      go_enter Try.func3, Try.ntmps3
      go_wp2_with fail
      refine (knows_any _).mono ?_
      rintro e w1 ⟨rfl, hb⟩
      go_wp2_with fail
      go_ret
      exact ⟨rfl, hb⟩
  have i1 : ¬ (300 : Int) < (L.length : Int) := by omega
  have i2 : ¬ (300 : Int) < (H.length : Int) := by omega
  have i3 : ¬ (600 : Int) < many := by omega
  have hMAY := Lib.hid (fun w => may_any lc lp pb w)
  cases hp : permB lc lp pb with
  | false =>
    rw [hp] at hMAY
    clear hp hB hB1 hout
    go_enter Try.func3, Try.ntmps3
    go_wp2_with fail
    refine (hMAY.out _).mono ?_
    rintro e w2 ⟨rfl, rfl⟩
    go_wp2_with fail
    refine (knows_any _).mono ?_
    rintro e w3 ⟨rfl, hb⟩
    go_wp2_with fail
    go_ret
    exact ⟨rfl, hb⟩
  | true =>
    rw [hp] at hMAY
    have hp' := of_decide_eq_true hp
    clear hp
    obtain ⟨lc, rfl⟩ : ∃ n : Nat, lc = n := ⟨lc.toNat, by omega⟩
    obtain ⟨lp, rfl⟩ : ∃ n : Nat, lp = n := ⟨lp.toNat, by omega⟩
    obtain ⟨pb, rfl⟩ : ∃ n : Nat, pb = n := ⟨pb.toNat, by omega⟩
    have hlc : lc ≤ 4 := by omega
    have hlp : lp ≤ 4 := by omega
    have hpb : pb ≤ 4 := by omega
    have hlcp : lc + lp ≤ 4 := by omega
    have HNG := Lib.hid (fun w => mnew_good lc lp pb w hlc hlp hpb hlcp)
    have HPAR := Lib.hid (And.intro hlc (And.intro hlp (And.intro hpb hlcp)))
    have HNC := Lib.hid (fun w => newC_any lc lp pb (by omega) w)
    have HB := Lib.hid hB
    have HB1 := Lib.hid hB1
    have HC := Lib.hid (And.intro hc hm)
    have HC1 := Lib.hid (And.intro hc1 hm1)
    have hli : (L.length : Int) ≤ 300 := by omega
    have hHi : (H.length : Int) ≤ 300 := by omega
    have HL300 : Hid (L.length ≤ 300) := Lib.hid (by omega)
    have HH300 : Hid (H.length ≤ 300) := Lib.hid (by omega)
    have e01 : decide ((300 : Int) < (L.length : Int)) = false := decide_eq_false i1
    have e02 : decide ((300 : Int) < (H.length : Int)) = false := decide_eq_false i2
    have e03 : decide ((600 : Int) < many) = false := decide_eq_false i3
    clear hp' hB hB1 hout hlc hlp hpb hlcp hc hm hc1 hm1
    by_cases hgood : 5 ≤ L.length ∧ L.getD 0 0 = 0
    case neg =>
      obtain ⟨n, hd, hr⟩ : ∃ n : Int, Calls Try.prog 7 #[.slice A L.length c] w (DNone w n) ∧ ∀ w', Below w.heap.size w w' → Calls Try.prog 9 #[.slice A L.length c] w' (RNone w' n) := by
        by_cases h5 : L.length < 5
        · exact ⟨2, dnew_short A L c w h5, fun w' _ => rdnew_short A L c w' h5⟩
        · have h0 : L.getD 0 0 ≠ 0 := fun h => hgood ⟨by omega, h⟩
          exact ⟨6, dnew_bad A L c w HB.out.1 (by omega) h0, fun w' hb => rdnew_bad A L c w' (HB.out.1.below hb) (by omega) h0⟩
      have HD := Lib.hid hd
      have HR := Lib.hid hr
      clear hgood hd hr
      go_enter Try.func3, Try.ntmps3
      go_wp2_with fail
      refine (hMAY.out _).mono ?_
      rintro e w1' ⟨rfl, rfl⟩
      go_wp2_with fail
      refine HD.out.mono ?_
      rintro e w1 ⟨rfl, rfl⟩
      go_wp2_with fail
      refine (HNG.out _).mono ?_
      rintro e w2 ⟨C, Lb, rfl, _, hb2, _, _⟩
      have HB2 := Lib.hid hb2
      have HR2 := Lib.hid (HR.out w2 hb2)
      clear hb2
      go_wp2_with fail
      refine HR2.out.mono ?_
      rintro e w3 ⟨rfl, rfl⟩
      go_wp2_with fail
      refine (umread_nil (PF C) (.slice A1 H.length c1) many dict ⟨_, _, _, rfl⟩ w2).mono ?_
      rintro e w4 ⟨rfl, rfl⟩
      go_wp2_with fail
      refine (knows_any _).mono ?_
      rintro e w5 ⟨rfl, hb5⟩
      have HB5 := Lib.hid (HB2.out.trans (hb5.mono HB2.out.size))
      clear hb5
      go_wp2_with fail
      go_ret
      exact ⟨rfl, HB5.out⟩
    case pos =>
      obtain ⟨bb, off, eA, hbb, _⟩ := HB.out.1.addr (by omega)
      subst eA
      have HDN := Lib.hid (dnew_good (some ⟨bb, off, none⟩) L c w HB.out.1 hgood.1 (by have := HL300.out; omega) hgood.2)
      have HRN := Lib.hid (fun w' (hb : Below w.heap.size w w') => rdnew_good bb off L c w' (HB.out.1.below hb) hgood.1 hgood.2)
      have HOKD : Hid ((Rd.start L).ok L ∧ L.length ≤ 140737488355328) := Lib.hid ⟨Rd.start_ok hgood.1, by have := HL300.out; omega⟩
      have HBB := Lib.hid hbb
      clear hgood hbb
      go_enter Try.func3, Try.ntmps3
      go_wp2_with fail
      refine (hMAY.out _).mono ?_
      rintro e w1' ⟨rfl, rfl⟩
      go_wp2_with fail
      refine HDN.out.mono ?_
      rintro e w1 ⟨g, o, cap, rfl, hE, hb1, hg, ho⟩
      have HE := Lib.hid (And.intro hE (And.intro hb1 (And.intro hg ho)))
      clear hE hb1 hg ho
      go_wp2_with fail
      refine (HNG.out w1).mono ?_
      rintro e w2 ⟨C, Lb, rfl, hMD, hb2, hC, hLb⟩
      have HM2 := Lib.hid (And.intro hMD (And.intro hb2 (And.intro hC hLb)))
      have HB02 := Lib.hid (HE.out.2.1.trans (hb2.mono HE.out.2.1.size))
      clear hMD hb2 hC hLb
      go_wp2_with fail
      refine (HRN.out w2 HB02.out).mono ?_
      rintro e w3 ⟨h, rfl, hR, hb3, hh⟩
      have HR3 := Lib.hid (And.intro hR (And.intro hb3 hh))
      have HB03 := Lib.hid (HB02.out.trans (hb3.mono HB02.out.size))
      have hms : MS (decIo g o cap L) w3 C Lb lc lp pb 0 (1, 1, 1, 1) (fun _ => 1024, Rd.start L) [g, o] := by
        obtain ⟨_, _, _, hT⟩ := id HE.out.1
        have h1 := hT.glt
        have h2 := hT.lt
        have h3 := HM2.out.2.2
        have h0 : MS (decIo g o cap L) w2 C Lb lc lp pb 0 (1, 1, 1, 1) (fun _ => 1024, Rd.start L) [g, o] := ⟨HM2.out.1, ⟨rfl, HE.out.1.below HM2.out.2.1⟩, by simp; omega, by simp; omega⟩
        exact h0.below hb3
      have HLO : Hid (∀ i ∈ C :: Lb :: [g, o], w.heap.size ≤ i ∧ i < w2.heap.size) := Lib.hid (by
        have s1 := HE.out.2.1.size
        have s2 := HM2.out.2.1.size
        have h1 := HE.out.2.2
        have h2 := HM2.out.2.2
        have k1 := HM2.out.1.clt
        have k2 := HM2.out.1.llt
        obtain ⟨_, _, _, hT⟩ := id HE.out.1
        have k3 := hT.glt
        have k4 := hT.lt
        intro i hi
        simp only [List.mem_cons, List.not_mem_nil, or_false] at hi
        rcases hi with rfl | rfl | rfl | rfl <;> omega)
      have HMS := Lib.hid hms
      have hHB3 := HB1.out.1.below HB03.out
      have HHB3 := Lib.hid hHB3
      clear hR hb3 hh hms hHB3
      by_cases hbad : many < 0 ∨ dict < 1
      · have HUB := Lib.hid (umread_bad g C A1 H.length c1 many dict hbad w3)
        by_cases h1 : many < 0
        · have h1b : decide (many < 0) = true := decide_eq_true h1
          clear hbad
          go_wp2_with fail
          refine HUB.out.mono ?_
          rintro e w4 ⟨rfl, rfl⟩
          go_wp2_with fail
          refine (knows_any _).mono ?_
          rintro e w5 ⟨rfl, hb5⟩
          have HB5 := Lib.hid (HB03.out.trans (hb5.mono HB03.out.size))
          clear hb5
          go_wp2_with fail
          go_ret
          exact ⟨rfl, HB5.out⟩
        · have h1b : decide (many < 0) = false := decide_eq_false h1
          have h2 : dict < 1 := by omega
          have h2b : decide (dict < 1) = true := decide_eq_true h2
          clear hbad
          go_wp2_with fail
          refine HUB.out.mono ?_
          rintro e w4 ⟨rfl, rfl⟩
          go_wp2_with fail
          refine (knows_any _).mono ?_
          rintro e w5 ⟨rfl, hb5⟩
          have HB5 := Lib.hid (HB03.out.trans (hb5.mono HB03.out.size))
          clear hb5
          go_wp2_with fail
          go_ret
          exact ⟨rfl, HB5.out⟩
      · have h1b : decide (many < 0) = false := decide_eq_false (fun h => hbad (.inl h))
        have h2b : decide (dict < 1) = false := decide_eq_false (fun h => hbad (.inr h))
        obtain ⟨m, rfl⟩ : ∃ m : Nat, many = (m : Int) := ⟨many.toNat, by omega⟩
        have hd1 : 1 ≤ dict := by omega
        have hm600 : m ≤ 600 := by omega
        have h1n : ¬ (m : Int) < 0 := by omega
        have h2n : ¬ dict < 1 := by omega
        have hum : Calls Try.prog 10 #[PF g, PF C, .slice A1 H.length c1, .int .i64 (m : Nat), .int .i64 dict] w3 (UmDone g o cap L C Lb lc lp pb [g, o] (H.length - cutOf H.length (max dict 1)) (uread g o cap L lc lp pb dict (H.length - cutOf H.length (max dict 1) + m) m (H.drop (cutOf H.length (max dict 1))) 0 (1, 1, 1, 1) (fun _ => 1024, Rd.start L)) w3) := umread_good HMS.out HPAR.out.1 HPAR.out.2.1 HPAR.out.2.2.1 (by decide) rGood1 HOKD.out A1 H c1 HHB3.out HC1.out.1 (by have := HH300.out; omega) m (by omega) dict hd1 hdict
        rw [uread_cut HPAR.out.2.1 HPAR.out.2.2.1 H m (fun _ => 1024, Rd.start L)] at hum
        obtain ⟨RES, hRES⟩ : ∃ RES, uread g o cap L lc lp pb dict (H.length + m) m H 0 (1, 1, 1, 1) (fun _ => 1024, Rd.start L) = RES := ⟨_, rfl⟩
        rw [hRES] at hum
        have hcl := cutOf_le H.length (show 0 ≤ max dict 1 by omega)
        obtain ⟨cut, hcut⟩ : ∃ cut, cutOf H.length (max dict 1) = cut := ⟨_, rfl⟩
        have hum2 : Calls Try.prog 10 #[PF g, PF C, .slice A1 H.length c1, .int .i64 (m : Nat), .int .i64 dict] w3 (UmDone g o cap L C Lb lc lp pb [g, o] (H.length - cut) (RES.map fun q => (q.1.drop cut, q.2)) w3) := by
          rw [← hcut]; exact hum
        have HUM := Lib.hid hum2
        have HRES := Lib.hid hRES
        have HCL : Hid (cut ≤ H.length) := Lib.hid (by rw [← hcut]; exact hcl)
        have HM600 := Lib.hid hm600
        have HN2 : Hid (2180 + 768 * 2 ^ (lc + lp) ≤ 1000000) := Lib.hid (by
          have : 2 ^ (lc + lp) ≤ 2 ^ 4 := Nat.pow_le_pow_right (by omega) HPAR.out.2.2.2
          omega)
        have hmi600 : (m : Int) ≤ 600 := by omega
        clear hbad hum hum2 hRES hcl hcut hm600
        cases RES with
        | none =>
          go_wp2_with fail
          refine HUM.out.mono ?_
          rintro e w4 ⟨rfl, hon4⟩
          have hb4 : Below w.heap.size w3 w4 := hon4.below HB03.out.size (fun i hi => (HLO.out i hi).1)
          have HB04 := Lib.hid (HB03.out.trans hb4)
          have hR4 : RDecIs w4 h bb off c L (Rd.start L) := by
            obtain ⟨x, z, q1, q2⟩ := HR3.out.1
            have hl := (Array.getElem?_eq_some_iff.1 q2.blk).1
            exact ⟨x, z, q1, q2.keep hon4.size (hon4.block h hl (fun hi => by have := (HLO.out h hi).2; have := HR3.out.2.2; omega)) (hb4.block bb HBB.out)⟩
          have HR4 := Lib.hid hR4
          clear hon4 hb4 hR4
          go_wp2_with fail
          refine (HNC.out w4).mono ?_
          rintro e w5 ⟨C2, vR, vP, rfl, hco, hb5, hC2⟩
          obtain ⟨w6, hw6⟩ : ∃ w6, w5.alloc (.cells #[PF h, PF C2] 41) = w6 := ⟨_, rfl⟩
          obtain ⟨R, hRe⟩ : ∃ R, w5.heap.size = R := ⟨_, rfl⟩
          obtain ⟨Y, hRD, hYl⟩ := rd_start (w := w) hco hC2 hb5 HR4.out HBB.out (Nat.le_trans HB02.out.size HR3.out.2.2) HB04.out.size hw6 hRe.symm
          have hb6 : Below w4.heap.size w4 w6 := by rw [← hw6]; exact hb5.alloc hb5.size _
          have HB06 := Lib.hid (HB04.out.trans (hb6.mono HB04.out.size))
          have HQR := Lib.hid (qread_any hRD HOKD.out HPAR.out.1 HPAR.out.2.1 HPAR.out.2.2.1 (by decide) rGood1 A1 H c1 (HB1.out.1.below HB06.out) HC1.out.1 (by have := HH300.out; omega) m (by have := HM600.out; omega) rfl HN2.out dict hd1 HRES.out)
          have HW6 := Lib.hid hw6
          have HRE := Lib.hid hRe
          have HYL : Hid (∀ i ∈ Y, w.heap.size ≤ i) := Lib.hid (fun i hi => by
            have s4 := HB04.out.size
            have s2 := HB02.out.size
            have := HR3.out.2.2
            rcases hYl i hi with h1 | h1 <;> omega)
          clear hco hb5 hC2 hw6 hRD hYl hRe hb6
          go_upto_region 12 with fail
          rw [HW6.out, HRE.out]
          go_wp2_with fail
          refine HQR.out.mono ?_
          rintro e w7 ⟨rfl, hon7⟩
          have HB07 := Lib.hid (HB06.out.trans (hon7.below HB06.out.size HYL.out))
          clear hon7
          go_wp2_with fail
          refine (knows_any _).mono ?_
          rintro e w8 ⟨rfl, hb8⟩
          have HB08 := Lib.hid (HB07.out.trans (hb8.mono HB07.out.size))
          clear hb8
          go_wp2_with fail
          go_ret
          exact ⟨rfl, HB08.out⟩
        | some q =>
          obtain ⟨T, st, r, y⟩ := q
          have hTl : H.length ≤ T.length := uread_len m H 0 (1, 1, 1, 1) (fun _ => 1024, Rd.start L) HRES.out
          obtain ⟨TD, hTD⟩ : ∃ TD, T.drop H.length = TD := ⟨_, rfl⟩
          have hTDl : TD.length = T.length - H.length := by rw [← hTD, List.length_drop]
          have hTDc : (T.drop cut).drop (H.length - cut) = TD := by
            rw [List.drop_drop, ← hTD, show cut + (H.length - cut) = H.length by have := HCL.out; omega]
          have hTDn : (T.drop cut).length - (H.length - cut) = TD.length := by
            rw [List.length_drop, hTDl]; have := HCL.out; omega
          have hum3 : Calls Try.prog 10 #[PF g, PF C, .slice A1 H.length c1, .int .i64 (m : Nat), .int .i64 dict] w3 (fun e w4 => ∃ AO cO, e = .returned (.tuple #[.slice AO TD.length cO, .int .i64 0]) ∧ TD.length ≤ cO ∧ cO ≤ 9223372036854775807 ∧ Bytes w4 AO TD ∧ MS (decIo g o cap L) w4 C Lb lc lp pb st r y [g, o] ∧ Only (C :: Lb :: [g, o]) w3 w4) := HUM.out.mono (fun e w4 hu => by
            obtain ⟨AO, cO, h1, h2, h3, h4, X4, h5, h6, _⟩ := hu
            obtain rfl : X4 = [g, o] := h5.io.1
            have e1 : (T.drop cut).length - (H.length - cut) = TD.length := hTDn
            rw [e1] at h1 h2
            have e2 : (T.drop cut).drop (H.length - cut) = TD := hTDc
            rw [e2] at h4
            exact ⟨AO, cO, h1, h2, h3, h4, h5, h6⟩)
          have HUM3 := Lib.hid hum3
          have HTD := Lib.hid (And.intro hTD hTDl)
          clear hum3 hTl hTD hTDl hTDc hTDn HUM
          go_wp2_with fail
          refine HUM3.out.mono ?_
          rintro e w4 ⟨AO, cO, rfl, hcO, hmO, hBO, hms4, hon4⟩
          have hb4 : Below w.heap.size w3 w4 := hon4.below HB03.out.size (fun i hi => (HLO.out i hi).1)
          have HB04 := Lib.hid (HB03.out.trans hb4)
          have hR4 : RDecIs w4 h bb off c L (Rd.start L) := by
            obtain ⟨x, z, q1, q2⟩ := HR3.out.1
            have hl := (Array.getElem?_eq_some_iff.1 q2.blk).1
            exact ⟨x, z, q1, q2.keep hon4.size (hon4.block h hl (fun hi => by have := (HLO.out h hi).2; have := HR3.out.2.2; omega)) (hb4.block bb HBB.out)⟩
          have HR4 := Lib.hid hR4
          have HMS4 := Lib.hid hms4
          have HCO := Lib.hid (And.intro hcO hmO)
          have hcOi : (TD.length : Int) ≤ (cO : Int) := by omega
          have hmOi : (cO : Int) ≤ 9223372036854775807 := by omega
          have HND : Hid (TD = [] ∨ ((∀ a, AO = some a → a.block ≠ h) ∧ ∀ a, AO = some a → a.block < w4.heap.size)) := Lib.hid (by
            by_cases h0 : TD = []
            · exact .inl h0
            · refine .inr ⟨hBO.notDec h0 hR4, fun a e => ?_⟩
              rcases hBO with h1 | ⟨b', o', e1, h2, _⟩
              · exact absurd h1 h0
              · rw [e] at e1; injection e1 with e1; rw [e1]; exact h2)
          have HBO4 := Lib.hid hBO
          clear hon4 hb4 hR4 hms4 hcO hmO hBO
          go_wp2_with fail
          refine (HNC.out w4).mono ?_
          rintro e w5 ⟨C2, vR, vP, rfl, hco, hb5, hC2⟩
          obtain ⟨w6, hw6⟩ : ∃ w6, w5.alloc (.cells #[PF h, PF C2] 41) = w6 := ⟨_, rfl⟩
          obtain ⟨R, hRe⟩ : ∃ R, w5.heap.size = R := ⟨_, rfl⟩
          obtain ⟨Y, hRD, hYl⟩ := rd_start (w := w) hco hC2 hb5 HR4.out HBB.out (Nat.le_trans HB02.out.size HR3.out.2.2) HB04.out.size hw6 hRe.symm
          have hb6 : Below w4.heap.size w4 w6 := by rw [← hw6]; exact hb5.alloc hb5.size _
          have HB06 := Lib.hid (HB04.out.trans (hb6.mono HB04.out.size))
          have HB46 := Lib.hid hb6
          have HQR := Lib.hid (qread_any hRD HOKD.out HPAR.out.1 HPAR.out.2.1 HPAR.out.2.2.1 (by decide) rGood1 A1 H c1 (HB1.out.1.below HB06.out) HC1.out.1 (by have := HH300.out; omega) m (by have := HM600.out; omega) rfl HN2.out dict hd1 HRES.out)
          have HW6 := Lib.hid hw6
          have HRE := Lib.hid hRe
          have HYL : Hid (∀ i ∈ Y, i = h ∨ w4.heap.size ≤ i) := Lib.hid hYl
          clear hco hb5 hC2 hw6 hRD hYl hRe hb6
          go_upto_region 12 with fail
          rw [HW6.out, HRE.out]
          go_wp2_with fail
          refine HQR.out.mono ?_
          rintro e WZ ⟨AW, cW, rfl, hcW, hmW, hBW, Y2, hRZ, hon7⟩
          have hYw : ∀ i ∈ Y, w.heap.size ≤ i := fun i hi => by
            have s4 := HB04.out.size
            have s2 := HB02.out.size
            have := HR3.out.2.2
            rcases HYL.out i hi with h1 | h1 <;> omega
          have HB07 := Lib.hid (HB06.out.trans (hon7.below HB06.out.size hYw))
          rw [← HTD.out.2] at hcW
          rw [HTD.out.1] at hBW
          have HEW : Hid (T.length - H.length = TD.length) := Lib.hid HTD.out.2.symm
          have hmsz : MS (decIo g o cap L) WZ C Lb lc lp pb st r y [g, o] := by
            have h6 := HMS4.out.below HB46.out
            refine h6.keepAll hon7.size (fun i hi => hon7.block i (h6.ltall i hi) (fun hY => ?_))
            have h1 := HMS4.out.ltall i hi
            have h2 := (HLO.out i hi).2
            have := HR3.out.2.2
            rcases HYL.out i hY with h3 | h3 <;> omega
          have hboz : Bytes WZ AO TD := by
            rcases HND.out with h0 | ⟨h0, h1⟩
            · rw [h0]; exact .inl rfl
            · refine (HBO4.out.below HB46.out).only hon7 (fun a e hY => ?_)
              rcases HYL.out _ hY with h3 | h3
              · exact h0 a e h3
              · have := h1 a e; omega
          have HMZ := Lib.hid hmsz
          have HBO := Lib.hid hboz
          have HBW := Lib.hid hBW
          have hcWi : (TD.length : Int) ≤ (cW : Int) := by omega
          have hmWi : (cW : Int) ≤ 9223372036854775807 := by omega
          have hRl := hRZ.lt.2.1
          have hCl : C2 < WZ.heap.size := by
            obtain ⟨_, _, _, _, _, hC, _⟩ := hRZ.ex
            exact hC.lt
          have HRZ : Hid (RDecIs WZ h bb off c L y.2) := Lib.hid hRZ.decoder.1
          have HL1 : Hid (∀ w2, Below WZ.heap.size WZ w2 → w2.cell? ⟨R, 1, none⟩ = some (PF C2)) := Lib.hid (fun w2 hb => (hb.cell (p := ⟨R, 1, none⟩) hRl).trans (by rw [cell_of_row WZ _ _ _ _ _ hRZ.rbox]; rfl))
          have HL3 : Hid (∀ w2, Below WZ.heap.size WZ w2 → w2.cell? ⟨C2, 3, none⟩ = some (.int .i64 (st : Nat))) := Lib.hid (fun w2 hb => (hb.cell (p := ⟨C2, 3, none⟩) hCl).trans hRZ.heads.2.2.2)
          obtain ⟨gR, capR, hcapR, hL4, hRC⟩ : ∃ gR capR, 4 ≤ capR ∧ (∀ w2, Below WZ.heap.size WZ w2 → w2.cell? ⟨C2, 4, none⟩ = some (.slice (some ⟨gR, 0, none⟩) 4 capR)) ∧ (∀ w2, Below WZ.heap.size WZ w2 → w2.cell? ⟨gR, 0, none⟩ = some (.int .i64 r.1) ∧ w2.cell? ⟨gR, 1, none⟩ = some (.int .i64 r.2.1) ∧ w2.cell? ⟨gR, 2, none⟩ = some (.int .i64 r.2.2.1) ∧ w2.cell? ⟨gR, 3, none⟩ = some (.int .i64 r.2.2.2)) := by
            obtain ⟨Pl, vR, gR, gP, capP, hC, _⟩ := hRZ.ex
            obtain ⟨_, c4, _, _, g4, cap4, rfl, h4, hm4, x0, x1, x2, x3, _⟩ := hC.cells
            have hgl := block_lt_of_cell x0
            exact ⟨g4, cap4, h4, fun w2 hb => (hb.cell (p := ⟨C2, 4, none⟩) hCl).trans c4, fun w2 hb => ⟨(hb.cell (p := ⟨g4, 0, none⟩) hgl).trans x0, (hb.cell (p := ⟨g4, 1, none⟩) hgl).trans x1, (hb.cell (p := ⟨g4, 2, none⟩) hgl).trans x2, (hb.cell (p := ⟨g4, 3, none⟩) hgl).trans x3⟩⟩
          have HCAP := Lib.hid hcapR
          have HL4 := Lib.hid hL4
          have HRC := Lib.hid hRC
          have hdr : Below WZ.heap.size WZ WZ.drew := (Below.refl _ _).drew
          clear hcW hmW hBW hRZ hon7 hYw hmsz hboz hRl hCl hcapR hL4 hRC
          go_upto_region 15 with fail
          rw [HEW.out]
          refine wp_region_held_drew (S := fun w2 => Below WZ.heap.size WZ w2) (by kernel_rfl) hdr (fun hS => ?_)
          refine wpAnyH_take (i := 0) (oi := { dst := some 133, op := Op.move (Operand.tmp 21), type := 22, pos := "law.go:61", after := #[], guard := none }) (v := ?vl151) rfl (by kernel_rfl) (by kernel_rfl) (by kernel_rfl) (fun _ _ _ h => h) (Or.inl ⟨by rfl, ?yl151⟩) hS ?_
          case yl151 =>
            intro w hSw
            go_simp; all_goals (with_reducible rfl)
          simp only [Act.put, List.setIfInBounds_toArray, List.set_cons_zero, List.set_cons_succ]
          refine wpAnyH_take (i := 2) (oi := { dst := some 135, op := Op.move (Operand.tmp 24), type := 22, pos := "law.go:61", after := #[], guard := none }) (v := ?vl152) rfl (by kernel_rfl) (by kernel_rfl) (by kernel_rfl) (fun _ _ _ h => h) (Or.inl ⟨by rfl, ?yl152⟩) hS ?_
          case yl152 =>
            intro w hSw
            go_simp; all_goals (with_reducible rfl)
          simp only [Act.put, List.setIfInBounds_toArray, List.set_cons_zero, List.set_cons_succ]
          refine wpAnyH_take (i := 1) (oi := { dst := some 134, op := Op.convert 22 9 (Operand.tmp 133), type := 9, pos := "law.go:61", after := #[{ on := 0, ground := Ground.data }], guard := none }) (v := ?vl153) rfl (by kernel_rfl) (by kernel_rfl) (by kernel_rfl) (fun _ _ _ h => h) (Or.inl ⟨by rfl, ?yl153⟩) hS ?_
          case yl153 =>
            intro w hSw
            have k1 := run_str (HBO.out.below hSw) cO
            go_simp; all_goals (with_reducible rfl)
          simp only [Act.put, List.setIfInBounds_toArray, List.set_cons_zero, List.set_cons_succ]
          refine wpAnyH_take (i := 3) (oi := { dst := some 136, op := Op.convert 22 9 (Operand.tmp 135), type := 9, pos := "law.go:61", after := #[{ on := 2, ground := Ground.data }], guard := none }) (v := ?vl154) rfl (by kernel_rfl) (by kernel_rfl) (by kernel_rfl) (fun _ _ _ h => h) (Or.inl ⟨by rfl, ?yl154⟩) hS ?_
          case yl154 =>
            intro w hSw
            have k1 := run_str (HBW.out.below hSw) cW
            go_simp; all_goals (with_reducible rfl)
          simp only [Act.put, List.setIfInBounds_toArray, List.set_cons_zero, List.set_cons_succ]
          refine wpAnyH_take (i := 4) (oi := { dst := some 137, op := Op.binOp BinOp.eql 9 (Operand.tmp 134) (Operand.tmp 136) 9, type := 4, pos := "law.go:61", after := #[{ on := 1, ground := Ground.data }, { on := 3, ground := Ground.data }], guard := none }) (v := ?vl155) rfl (by kernel_rfl) (by kernel_rfl) (by kernel_rfl) (fun _ _ _ h => h) (Or.inl ⟨by rfl, ?yl155⟩) hS ?_
          case yl155 =>
            intro w hSw
            go_simp; all_goals (with_reducible rfl)
          simp only [Act.put, List.setIfInBounds_toArray, List.set_cons_zero, List.set_cons_succ]
          refine wpAnyH_take (i := 5) (oi := { dst := some 138, op := Op.move (Operand.tmp 137), type := 4, pos := "law.go:61", after := #[{ on := 4, ground := Ground.data }], guard := none }) (v := ?vl156) rfl (by kernel_rfl) (by kernel_rfl) (by kernel_rfl) (fun _ _ _ h => h) (Or.inl ⟨by rfl, ?yl156⟩) hS ?_
          case yl156 =>
            intro w hSw
            go_simp; all_goals (with_reducible rfl)
          simp only [Act.put, List.setIfInBounds_toArray, List.set_cons_zero, List.set_cons_succ]
          refine wpAnyH_take (i := 6) (oi := { dst := some 139, op := Op.move (Operand.tmp 22), type := 26, pos := "law.go:61", after := #[{ on := 5, ground := Ground.guard }], guard := some (5, true) }) (v := ?vl157) rfl (by kernel_rfl) (by kernel_rfl) (by kernel_rfl) (fun _ _ _ h => h) (Or.inl ⟨by rfl, ?yl157⟩) hS ?_
          case yl157 =>
            intro w hSw
            go_simp; all_goals (with_reducible rfl)
          simp only [Act.put, List.setIfInBounds_toArray, List.set_cons_zero, List.set_cons_succ]
          refine wpAnyH_take (i := 7) (oi := { dst := some 140, op := Op.binOp BinOp.eql 26 (Operand.tmp 139) (Operand.const (Value.int IntKind.i64 0)) 26, type := 4, pos := "law.go:61", after := #[{ on := 6, ground := Ground.data }, { on := 5, ground := Ground.guard }], guard := some (5, true) }) (v := ?vl158) rfl (by kernel_rfl) (by kernel_rfl) (by kernel_rfl) (fun _ _ _ h => h) (Or.inl ⟨by rfl, ?yl158⟩) hS ?_
          case yl158 =>
            intro w hSw
            go_simp; all_goals (with_reducible rfl)
          simp only [Act.put, List.setIfInBounds_toArray, List.set_cons_zero, List.set_cons_succ]
          refine wpAnyH_take (i := 8) (oi := { dst := some 141, op := Op.pick (Operand.tmp 138) (Operand.tmp 140) (Operand.const (Value.bool false)), type := 4, pos := "law.go:61", after := #[{ on := 5, ground := Ground.data }, { on := 7, ground := Ground.data }], guard := none }) (v := ?vl159) rfl (by kernel_rfl) (by kernel_rfl) (by kernel_rfl) (fun _ _ _ h => h) (Or.inl ⟨by rfl, ?yl159⟩) hS ?_
          case yl159 =>
            intro w hSw
            go_simp; all_goals (with_reducible rfl)
          simp only [Act.put, List.setIfInBounds_toArray, List.set_cons_zero, List.set_cons_succ]
          refine wpAnyH_take (i := 9) (oi := { dst := some 142, op := Op.move (Operand.tmp 141), type := 4, pos := "law.go:61", after := #[{ on := 8, ground := Ground.data }, { on := 5, ground := Ground.chain }], guard := none }) (v := ?vl1510) rfl (by kernel_rfl) (by kernel_rfl) (by kernel_rfl) (fun _ _ _ h => h) (Or.inl ⟨by rfl, ?yl1510⟩) hS ?_
          case yl1510 =>
            intro w hSw
            go_simp; all_goals (with_reducible rfl)
          simp only [Act.put, List.setIfInBounds_toArray, List.set_cons_zero, List.set_cons_succ]
          refine wpAnyH_take (i := 10) (oi := { dst := some 143, op := Op.move (Operand.tmp 17), type := 29, pos := "law.go:61", after := #[{ on := 9, ground := Ground.guard }], guard := some (9, true) }) (v := ?vl1511) rfl (by kernel_rfl) (by kernel_rfl) (by kernel_rfl) (fun _ _ _ h => h) (Or.inl ⟨by rfl, ?yl1511⟩) hS ?_
          case yl1511 =>
            intro w hSw
            go_simp; all_goals (with_reducible rfl)
          simp only [Act.put, List.setIfInBounds_toArray, List.set_cons_zero, List.set_cons_succ]
          refine wpAnyH_take (i := 12) (oi := { dst := some 145, op := Op.move (Operand.tmp 23), type := 37, pos := "law.go:61", after := #[{ on := 9, ground := Ground.guard }], guard := some (9, true) }) (v := ?vl1512) rfl (by kernel_rfl) (by kernel_rfl) (by kernel_rfl) (fun _ _ _ h => h) (Or.inl ⟨by rfl, ?yl1512⟩) hS ?_
          case yl1512 =>
            intro w hSw
            go_simp; all_goals (with_reducible rfl)
          simp only [Act.put, List.setIfInBounds_toArray, List.set_cons_zero, List.set_cons_succ]
          refine wpAnyH_take (i := 13) (oi := { dst := some 146, op := Op.nilCheck (Operand.tmp 145), type := 0, pos := "law.go:61", after := #[{ on := 12, ground := Ground.data }, { on := 9, ground := Ground.guard }], guard := some (9, true) }) (v := ?vl1513) rfl (by kernel_rfl) (by kernel_rfl) (by kernel_rfl) (fun _ _ _ h => h) (Or.inl ⟨by rfl, ?yl1513⟩) hS ?_
          case yl1513 =>
            intro w hSw
            go_simp; all_goals (with_reducible rfl)
          simp only [Act.put, List.setIfInBounds_toArray, List.set_cons_zero, List.set_cons_succ]
          refine wpAnyH_take (i := 14) (oi := { dst := some 147, op := Op.fieldAddr 41 (Operand.tmp 146) 1, type := 0, pos := "law.go:61", after := #[{ on := 13, ground := Ground.data }, { on := 9, ground := Ground.guard }], guard := some (9, true) }) (v := ?vl1514) rfl (by kernel_rfl) (by kernel_rfl) (by kernel_rfl) (fun _ _ _ h => h) (Or.inl ⟨by rfl, ?yl1514⟩) hS ?_
          case yl1514 =>
            intro w hSw
            go_simp; all_goals (with_reducible rfl)
          simp only [Act.put, List.setIfInBounds_toArray, List.set_cons_zero, List.set_cons_succ]
          refine wpAnyH_take (i := 15) (oi := { dst := some 148, op := Op.load 38 (Operand.tmp 147), type := 38, pos := "law.go:61", after := #[{ on := 14, ground := Ground.data }, { on := 9, ground := Ground.guard }], guard := some (9, true) }) (v := ?vl1515) rfl (by kernel_rfl) (by kernel_rfl) (by kernel_rfl) (fun _ _ _ h => h) (Or.inl ⟨by rfl, ?yl1515⟩) hS ?_
          case yl1515 =>
            intro w hSw
            have q1 := HL1.out w hSw
            go_simp; all_goals (with_reducible rfl)
          simp only [Act.put, List.setIfInBounds_toArray, List.set_cons_zero, List.set_cons_succ]
          refine wpAnyH_take (i := 16) (oi := { dst := some 149, op := Op.nilCheck (Operand.tmp 148), type := 0, pos := "law.go:61", after := #[{ on := 15, ground := Ground.data }, { on := 9, ground := Ground.guard }], guard := some (9, true) }) (v := ?vl1516) rfl (by kernel_rfl) (by kernel_rfl) (by kernel_rfl) (fun _ _ _ h => h) (Or.inl ⟨by rfl, ?yl1516⟩) hS ?_
          case yl1516 =>
            intro w hSw
            go_simp; all_goals (with_reducible rfl)
          simp only [Act.put, List.setIfInBounds_toArray, List.set_cons_zero, List.set_cons_succ]
          refine wpAnyH_take (i := 17) (oi := { dst := some 150, op := Op.fieldAddr 48 (Operand.tmp 149) 3, type := 0, pos := "law.go:61", after := #[{ on := 16, ground := Ground.data }, { on := 9, ground := Ground.guard }], guard := some (9, true) }) (v := ?vl1517) rfl (by kernel_rfl) (by kernel_rfl) (by kernel_rfl) (fun _ _ _ h => h) (Or.inl ⟨by rfl, ?yl1517⟩) hS ?_
          case yl1517 =>
            intro w hSw
            go_simp; all_goals (with_reducible rfl)
          simp only [Act.put, List.setIfInBounds_toArray, List.set_cons_zero, List.set_cons_succ]
          refine wpAnyH_take (i := 18) (oi := { dst := some 151, op := Op.load 3 (Operand.tmp 150), type := 3, pos := "law.go:61", after := #[{ on := 17, ground := Ground.data }, { on := 9, ground := Ground.guard }], guard := some (9, true) }) (v := ?vl1518) rfl (by kernel_rfl) (by kernel_rfl) (by kernel_rfl) (fun _ _ _ h => h) (Or.inl ⟨by rfl, ?yl1518⟩) hS ?_
          case yl1518 =>
            intro w hSw
            have q1 := HL3.out w hSw
            go_simp; all_goals (with_reducible rfl)
          simp only [Act.put, List.setIfInBounds_toArray, List.set_cons_zero, List.set_cons_succ]
          refine wpAnyH_ready (rs := [11]) (by kernel_rfl) (by simp) ?_
          refine (AllReadyH.cons (o := { dst := some 144, op := Op.call { callee := Callee.value (Operand.func 13), args := #[Operand.tmp 143], argTypes := #[29] }, type := 3, pos := "law.go:61", after := #[{ on := 10, ground := Ground.data }, { on := 9, ground := Ground.chain }, { on := 9, ground := Ground.guard }], guard := some (9, true) }) rfl (fun K hK => ?_) AllReadyH.nil)
          go_simp
          refine (state_any (HMZ.out.below hdr).mod).mono ?_
          rintro e x11 ⟨rfl, rfl⟩
          go_wp2_with fail
          refine hK.out _ _ hdr (fun _ => ?_)
          clear hK K
          refine wpAnyH_take (i := 19) (oi := { dst := some 152, op := Op.binOp BinOp.eql 3 (Operand.tmp 144) (Operand.tmp 151) 3, type := 4, pos := "law.go:61", after := #[{ on := 11, ground := Ground.data }, { on := 18, ground := Ground.data }, { on := 9, ground := Ground.guard }], guard := some (9, true) }) (v := ?vl1519) rfl (by kernel_rfl) (by kernel_rfl) (by kernel_rfl) (fun _ _ _ h => h) (Or.inl ⟨by rfl, ?yl1519⟩) hdr ?_
          case yl1519 =>
            intro w hSw
            go_simp; all_goals (with_reducible rfl)
          simp only [Act.put, List.setIfInBounds_toArray, List.set_cons_zero, List.set_cons_succ]
          refine wpAnyH_take (i := 20) (oi := { dst := some 153, op := Op.pick (Operand.tmp 142) (Operand.tmp 152) (Operand.const (Value.bool false)), type := 4, pos := "law.go:61", after := #[{ on := 9, ground := Ground.data }, { on := 19, ground := Ground.data }], guard := none }) (v := ?vl1520) rfl (by kernel_rfl) (by kernel_rfl) (by kernel_rfl) (fun _ _ _ h => h) (Or.inl ⟨by rfl, ?yl1520⟩) hdr ?_
          case yl1520 =>
            intro w hSw
            go_simp; all_goals (with_reducible rfl)
          simp only [Act.put, List.setIfInBounds_toArray, List.set_cons_zero, List.set_cons_succ]
          refine wpAnyH_take (i := 21) (oi := { dst := some 154, op := Op.move (Operand.tmp 153), type := 4, pos := "law.go:61", after := #[{ on := 20, ground := Ground.data }, { on := 11, ground := Ground.chain }], guard := none }) (v := ?vl1521) rfl (by kernel_rfl) (by kernel_rfl) (by kernel_rfl) (fun _ _ _ h => h) (Or.inl ⟨by rfl, ?yl1521⟩) hdr ?_
          case yl1521 =>
            intro w hSw
            go_simp; all_goals (with_reducible rfl)
          simp only [Act.put, List.setIfInBounds_toArray, List.set_cons_zero, List.set_cons_succ]
          refine wpAnyH_take (i := 22) (oi := { dst := some 155, op := Op.move (Operand.tmp 17), type := 29, pos := "law.go:61", after := #[{ on := 21, ground := Ground.guard }], guard := some (21, true) }) (v := ?vl1522) rfl (by kernel_rfl) (by kernel_rfl) (by kernel_rfl) (fun _ _ _ h => h) (Or.inl ⟨by rfl, ?yl1522⟩) hdr ?_
          case yl1522 =>
            intro w hSw
            go_simp; all_goals (with_reducible rfl)
          simp only [Act.put, List.setIfInBounds_toArray, List.set_cons_zero, List.set_cons_succ]
          refine wpAnyH_take (i := 24) (oi := { dst := some 157, op := Op.move (Operand.tmp 23), type := 37, pos := "law.go:61", after := #[{ on := 21, ground := Ground.guard }], guard := some (21, true) }) (v := ?vl1523) rfl (by kernel_rfl) (by kernel_rfl) (by kernel_rfl) (fun _ _ _ h => h) (Or.inl ⟨by rfl, ?yl1523⟩) hdr ?_
          case yl1523 =>
            intro w hSw
            go_simp; all_goals (with_reducible rfl)
          simp only [Act.put, List.setIfInBounds_toArray, List.set_cons_zero, List.set_cons_succ]
          refine wpAnyH_take (i := 25) (oi := { dst := some 158, op := Op.nilCheck (Operand.tmp 157), type := 0, pos := "law.go:61", after := #[{ on := 24, ground := Ground.data }, { on := 21, ground := Ground.guard }], guard := some (21, true) }) (v := ?vl1524) rfl (by kernel_rfl) (by kernel_rfl) (by kernel_rfl) (fun _ _ _ h => h) (Or.inl ⟨by rfl, ?yl1524⟩) hdr ?_
          case yl1524 =>
            intro w hSw
            go_simp; all_goals (with_reducible rfl)
          simp only [Act.put, List.setIfInBounds_toArray, List.set_cons_zero, List.set_cons_succ]
          refine wpAnyH_take (i := 26) (oi := { dst := some 159, op := Op.fieldAddr 41 (Operand.tmp 158) 1, type := 0, pos := "law.go:61", after := #[{ on := 25, ground := Ground.data }, { on := 21, ground := Ground.guard }], guard := some (21, true) }) (v := ?vl1525) rfl (by kernel_rfl) (by kernel_rfl) (by kernel_rfl) (fun _ _ _ h => h) (Or.inl ⟨by rfl, ?yl1525⟩) hdr ?_
          case yl1525 =>
            intro w hSw
            go_simp; all_goals (with_reducible rfl)
          simp only [Act.put, List.setIfInBounds_toArray, List.set_cons_zero, List.set_cons_succ]
          refine wpAnyH_take (i := 27) (oi := { dst := some 160, op := Op.load 38 (Operand.tmp 159), type := 38, pos := "law.go:61", after := #[{ on := 26, ground := Ground.data }, { on := 21, ground := Ground.guard }], guard := some (21, true) }) (v := ?vl1526) rfl (by kernel_rfl) (by kernel_rfl) (by kernel_rfl) (fun _ _ _ h => h) (Or.inl ⟨by rfl, ?yl1526⟩) hdr ?_
          case yl1526 =>
            intro w hSw
            have q1 := HL1.out w hSw
            go_simp; all_goals (with_reducible rfl)
          simp only [Act.put, List.setIfInBounds_toArray, List.set_cons_zero, List.set_cons_succ]
          refine wpAnyH_take (i := 28) (oi := { dst := some 161, op := Op.nilCheck (Operand.tmp 160), type := 0, pos := "law.go:61", after := #[{ on := 27, ground := Ground.data }, { on := 21, ground := Ground.guard }], guard := some (21, true) }) (v := ?vl1527) rfl (by kernel_rfl) (by kernel_rfl) (by kernel_rfl) (fun _ _ _ h => h) (Or.inl ⟨by rfl, ?yl1527⟩) hdr ?_
          case yl1527 =>
            intro w hSw
            go_simp; all_goals (with_reducible rfl)
          simp only [Act.put, List.setIfInBounds_toArray, List.set_cons_zero, List.set_cons_succ]
          refine wpAnyH_take (i := 29) (oi := { dst := some 162, op := Op.fieldAddr 48 (Operand.tmp 161) 4, type := 0, pos := "law.go:61", after := #[{ on := 28, ground := Ground.data }, { on := 21, ground := Ground.guard }], guard := some (21, true) }) (v := ?vl1528) rfl (by kernel_rfl) (by kernel_rfl) (by kernel_rfl) (fun _ _ _ h => h) (Or.inl ⟨by rfl, ?yl1528⟩) hdr ?_
          case yl1528 =>
            intro w hSw
            go_simp; all_goals (with_reducible rfl)
          simp only [Act.put, List.setIfInBounds_toArray, List.set_cons_zero, List.set_cons_succ]
          refine wpAnyH_take (i := 30) (oi := { dst := some 163, op := Op.load 45 (Operand.tmp 162), type := 45, pos := "law.go:61", after := #[{ on := 29, ground := Ground.data }, { on := 21, ground := Ground.guard }], guard := some (21, true) }) (v := ?vl1529) rfl (by kernel_rfl) (by kernel_rfl) (by kernel_rfl) (fun _ _ _ h => h) (Or.inl ⟨by rfl, ?yl1529⟩) hdr ?_
          case yl1529 =>
            intro w hSw
            have q1 := HL4.out w hSw
            go_simp; all_goals (with_reducible rfl)
          simp only [Act.put, List.setIfInBounds_toArray, List.set_cons_zero, List.set_cons_succ]
          refine wpAnyH_ready (rs := [23]) (by kernel_rfl) (by simp) ?_
          refine (AllReadyH.cons (o := { dst := some 156, op := Op.call { callee := Callee.value (Operand.func 15), args := #[Operand.tmp 155], argTypes := #[29] }, type := 50, pos := "law.go:61", after := #[{ on := 22, ground := Ground.data }, { on := 21, ground := Ground.chain }, { on := 21, ground := Ground.guard }], guard := some (21, true) }) rfl (fun K hK => ?_) AllReadyH.nil)
          go_simp
          refine (repeats_any (HMZ.out.below hdr).mod).mono ?_
          rintro e x23 ⟨rfl, hb23⟩
          have g23 := hdr.trans (hb23.mono hdr.size)
          clear hb23
          go_wp2_with fail
          refine hK.out _ _ g23 (fun _ => ?_)
          clear hK K
          refine wpAnyH_ready (rs := [31]) (by kernel_rfl) (by simp) ?_
          refine (AllReadyH.cons (o := { dst := some 164, op := Op.call { callee := Callee.value (Operand.func 14), args := #[Operand.tmp 156, Operand.tmp 163], argTypes := #[50, 45] }, type := 4, pos := "law.go:61", after := #[{ on := 23, ground := Ground.data }, { on := 30, ground := Ground.data }, { on := 23, ground := Ground.chain }, { on := 21, ground := Ground.guard }], guard := some (21, true) }) rfl (fun K hK => ?_) AllReadyH.nil)
          go_simp
          obtain ⟨b0, b1, b2, b3⟩ := HRC.out x23 g23
          refine (repeats_same r gR capR x23 HCAP.out b0 b1 b2 b3).mono ?_
          rintro e x31 ⟨rfl, hb31⟩
          have g31 := g23.trans (hb31.mono g23.size)
          clear hb31 b0 b1 b2 b3
          go_wp2_with fail
          refine hK.out _ _ g31 (fun _ => ?_)
          clear hK K
          refine wpAnyH_take (i := 32) (oi := { dst := some 165, op := Op.pick (Operand.tmp 154) (Operand.tmp 164) (Operand.const (Value.bool false)), type := 4, pos := "law.go:61", after := #[{ on := 21, ground := Ground.data }, { on := 31, ground := Ground.data }], guard := none }) (v := ?vl1530) rfl (by kernel_rfl) (by kernel_rfl) (by kernel_rfl) (fun _ _ _ h => h) (Or.inl ⟨by rfl, ?yl1530⟩) g31 ?_
          case yl1530 =>
            intro w hSw
            go_simp; all_goals (with_reducible rfl)
          simp only [Act.put, List.setIfInBounds_toArray, List.set_cons_zero, List.set_cons_succ]
          refine wpAnyH_take (i := 33) (oi := { dst := some 166, op := Op.move (Operand.tmp 165), type := 4, pos := "law.go:61", after := #[{ on := 32, ground := Ground.data }, { on := 31, ground := Ground.chain }], guard := none }) (v := ?vl1531) rfl (by kernel_rfl) (by kernel_rfl) (by kernel_rfl) (fun _ _ _ h => h) (Or.inl ⟨by rfl, ?yl1531⟩) g31 ?_
          case yl1531 =>
            intro w hSw
            go_simp; all_goals (with_reducible rfl)
          simp only [Act.put, List.setIfInBounds_toArray, List.set_cons_zero, List.set_cons_succ]
          refine wpAnyH_take (i := 34) (oi := { dst := some 167, op := Op.move (Operand.tmp 15), type := 25, pos := "law.go:61", after := #[{ on := 33, ground := Ground.guard }], guard := some (33, true) }) (v := ?vl1532) rfl (by kernel_rfl) (by kernel_rfl) (by kernel_rfl) (fun _ _ _ h => h) (Or.inl ⟨by rfl, ?yl1532⟩) g31 ?_
          case yl1532 =>
            intro w hSw
            go_simp; all_goals (with_reducible rfl)
          simp only [Act.put, List.setIfInBounds_toArray, List.set_cons_zero, List.set_cons_succ]
          refine wpAnyH_take (i := 36) (oi := { dst := some 169, op := Op.move (Operand.tmp 19), type := 32, pos := "law.go:61", after := #[{ on := 33, ground := Ground.guard }], guard := some (33, true) }) (v := ?vl1533) rfl (by kernel_rfl) (by kernel_rfl) (by kernel_rfl) (fun _ _ _ h => h) (Or.inl ⟨by rfl, ?yl1533⟩) g31 ?_
          case yl1533 =>
            intro w hSw
            go_simp; all_goals (with_reducible rfl)
          simp only [Act.put, List.setIfInBounds_toArray, List.set_cons_zero, List.set_cons_succ]
          refine wpAnyH_ready (rs := [35]) (by kernel_rfl) (by simp) ?_
          refine (AllReadyH.cons (o := { dst := some 168, op := Op.call { callee := Callee.value (Operand.func 16), args := #[Operand.tmp 167], argTypes := #[25] }, type := 4, pos := "law.go:61", after := #[{ on := 34, ground := Ground.data }, { on := 33, ground := Ground.chain }, { on := 33, ground := Ground.guard }], guard := some (33, true) }) rfl (fun K hK => ?_) AllReadyH.nil)
          go_simp
          refine (done_any g o cap L y.2 x31 (HMZ.out.below g31).io.2).mono ?_
          rintro e x35 ⟨rfl, hb35⟩
          have g35 := g31.trans (hb35.mono g31.size)
          clear hb35
          go_wp2_with fail
          refine hK.out _ _ g35 (fun _ => ?_)
          clear hK K
          refine wpAnyH_ready (rs := [37]) (by kernel_rfl) (by simp) ?_
          refine (AllReadyH.cons (o := { dst := some 170, op := Op.call { callee := Callee.value (Operand.func 17), args := #[Operand.tmp 169], argTypes := #[32] }, type := 4, pos := "law.go:61", after := #[{ on := 36, ground := Ground.data }, { on := 35, ground := Ground.chain }, { on := 33, ground := Ground.guard }], guard := some (33, true) }) rfl (fun K hK => ?_) AllReadyH.nil)
          go_simp
          refine (rddone_any h bb off c L y.2 x35 (HRZ.out.below g35)).mono ?_
          rintro e x37 ⟨rfl, hb37⟩
          have g37 := g35.trans (hb37.mono g35.size)
          clear hb37
          go_wp2_with fail
          refine hK.out _ _ g37 (fun _ => ?_)
          clear hK K
          refine wpAnyH_take (i := 38) (oi := { dst := some 171, op := Op.binOp BinOp.eql 4 (Operand.tmp 168) (Operand.tmp 170) 4, type := 4, pos := "law.go:61", after := #[{ on := 35, ground := Ground.data }, { on := 37, ground := Ground.data }, { on := 33, ground := Ground.guard }], guard := some (33, true) }) (v := ?vl1534) rfl (by kernel_rfl) (by kernel_rfl) (by kernel_rfl) (fun _ _ _ h => h) (Or.inl ⟨by rfl, ?yl1534⟩) g37 ?_
          case yl1534 =>
            intro w hSw
            go_simp; all_goals (with_reducible rfl)
          simp only [Act.put, List.setIfInBounds_toArray, List.set_cons_zero, List.set_cons_succ]
          refine wpAnyH_take (i := 39) (oi := { dst := some 172, op := Op.pick (Operand.tmp 166) (Operand.tmp 171) (Operand.const (Value.bool false)), type := 4, pos := "law.go:61", after := #[{ on := 33, ground := Ground.data }, { on := 38, ground := Ground.data }], guard := none }) (v := ?vl1535) rfl (by kernel_rfl) (by kernel_rfl) (by kernel_rfl) (fun _ _ _ h => h) (Or.inl ⟨by rfl, ?yl1535⟩) g37 ?_
          case yl1535 =>
            intro w hSw
            go_simp; all_goals (with_reducible rfl)
          simp only [Act.put, List.setIfInBounds_toArray, List.set_cons_zero, List.set_cons_succ]
          refine wpAnyH_take (i := 40) (oi := { dst := some 173, op := Op.move (Operand.tmp 172), type := 4, pos := "law.go:61", after := #[{ on := 39, ground := Ground.data }, { on := 37, ground := Ground.chain }], guard := none }) (v := ?vl1536) rfl (by kernel_rfl) (by kernel_rfl) (by kernel_rfl) (fun _ _ _ h => h) (Or.inl ⟨by rfl, ?yl1536⟩) g37 ?_
          case yl1536 =>
            intro w hSw
            go_simp; all_goals (with_reducible rfl)
          simp only [Act.put, List.setIfInBounds_toArray, List.set_cons_zero, List.set_cons_succ]
          refine wpAnyH_ready (rs := [41]) (by kernel_rfl) (by simp) ?_
          refine (AllReadyH.cons (o := { dst := some 174, op := Op.call { callee := Callee.value (Operand.func 6), args := #[], argTypes := #[] }, type := 4, pos := "law.go:61", after := #[{ on := 40, ground := Ground.chain }, { on := 40, ground := Ground.guard }], guard := some (40, true) }) rfl (fun K hK => ?_) AllReadyH.nil)
          go_simp
          refine (knows_any _).mono ?_
          rintro e x41 ⟨rfl, hb41⟩
          have g41 := g37.trans (hb41.mono g37.size)
          clear hb41
          go_wp2_with fail
          refine hK.out _ _ g41 (fun _ => ?_)
          clear hK K
          refine wpAnyH_take (i := 42) (oi := { dst := some 175, op := Op.pick (Operand.tmp 173) (Operand.tmp 174) (Operand.const (Value.bool false)), type := 4, pos := "law.go:61", after := #[{ on := 40, ground := Ground.data }, { on := 41, ground := Ground.data }], guard := none }) (v := ?vl1537) rfl (by kernel_rfl) (by kernel_rfl) (by kernel_rfl) (fun _ _ _ h => h) (Or.inl ⟨by rfl, ?yl1537⟩) g41 ?_
          case yl1537 =>
            intro w hSw
            go_simp; all_goals (with_reducible rfl)
          simp only [Act.put, List.setIfInBounds_toArray, List.set_cons_zero, List.set_cons_succ]
          refine wpAnyH_take (i := 43) (oi := { dst := some 14, op := Op.assign (Operand.tmp 175), type := 4, pos := "law.go:61", after := #[{ on := 42, ground := Ground.data }, { on := 41, ground := Ground.chain }, { on := 0, ground := Ground.phase }, { on := 1, ground := Ground.phase }, { on := 2, ground := Ground.phase }, { on := 3, ground := Ground.phase }, { on := 4, ground := Ground.phase }, { on := 5, ground := Ground.phase }, { on := 6, ground := Ground.phase }, { on := 7, ground := Ground.phase }, { on := 8, ground := Ground.phase }, { on := 9, ground := Ground.phase }, { on := 10, ground := Ground.phase }, { on := 11, ground := Ground.phase }, { on := 12, ground := Ground.phase }, { on := 13, ground := Ground.phase }, { on := 14, ground := Ground.phase }, { on := 15, ground := Ground.phase }, { on := 16, ground := Ground.phase }, { on := 17, ground := Ground.phase }, { on := 18, ground := Ground.phase }, { on := 19, ground := Ground.phase }, { on := 20, ground := Ground.phase }, { on := 21, ground := Ground.phase }, { on := 22, ground := Ground.phase }, { on := 23, ground := Ground.phase }, { on := 24, ground := Ground.phase }, { on := 25, ground := Ground.phase }, { on := 26, ground := Ground.phase }, { on := 27, ground := Ground.phase }, { on := 28, ground := Ground.phase }, { on := 29, ground := Ground.phase }, { on := 30, ground := Ground.phase }, { on := 31, ground := Ground.phase }, { on := 32, ground := Ground.phase }, { on := 33, ground := Ground.phase }, { on := 34, ground := Ground.phase }, { on := 35, ground := Ground.phase }, { on := 36, ground := Ground.phase }, { on := 37, ground := Ground.phase }, { on := 38, ground := Ground.phase }, { on := 39, ground := Ground.phase }, { on := 40, ground := Ground.phase }, { on := 41, ground := Ground.phase }, { on := 42, ground := Ground.phase }], guard := none }) (v := ?vl1538) rfl (by kernel_rfl) (by kernel_rfl) (by kernel_rfl) (fun _ _ _ h => h) (Or.inl ⟨by rfl, ?yl1538⟩) g41 ?_
          case yl1538 =>
            intro w hSw
            go_simp; all_goals (with_reducible rfl)
          simp only [Act.put, List.setIfInBounds_toArray, List.set_cons_zero, List.set_cons_succ]
          refine wpAnyH_done (by kernel_rfl) ?_ _

          have HFIN := Lib.hid (HB07.out.trans (g41.mono HB07.out.size))
          go_wp2_with fail
          go_ret
          exact ⟨rfl, HFIN.out⟩
end Go.Proofs.Ytdkimllfpiphgaa
