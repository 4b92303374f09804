/- The walk over the decoder's shift. -/
import Derived.Test.YtkckjjchfccdjaaMg1
import Derived.Test.YtkckjjchfccdjaaMg4
import Derived.Deep.LoopGhost
namespace Go.Proofs.Ytkckjjchfccdjaa
set_option maxRecDepth 100000
open Go.RowKit

/-- The decoder is in a state: of one that is out, Code and Range are not told. -/
def DecIs (w : World) (g o cap : Nat) (l : List UInt8) (s : Rd.St) : Prop := ∃ x y : Nat, (s.out = false → x = s.c ∧ y = s.r) ∧ DecAt w g o cap l x y s.pos s.out
theorem Only.undrew {X : List Nat} {a b : World} (h : Only X a.drew b) : Only X a b := ⟨h.os, h.tape, h.output, h.size, h.block⟩
def Moved (w : World) (g o cap : Nat) (l : List UInt8) (s : Rd.St) (w' : World) : Prop := DecIs w' g o cap l s ∧ Only [g] w w'

theorem or_low (c b : Nat) (hb : b < 256) : c * 256 % 4294967296 ||| b = (256 * c + b) % 4294967296 := by
  have e1 : c * 256 % 4294967296 = (c % 16777216) <<< 8 := by rw [Nat.shiftLeft_eq]; omega
  rw [e1, ← Nat.shiftLeft_add_eq_or_of_lt (by simpa using hb), Nat.shiftLeft_eq]; omega
theorem code_step (c b : Nat) (hb : b < 256) : bits .or .u32 (IntKind.u32.wrap ((c : Int) * 256)) (IntKind.u32.wrap (b : Int)) = (((256 * c + b) % 4294967296 : Nat) : Int) := by
  have e1 : IntKind.u32.wrap ((c : Int) * 256) = ((c * 256 % 4294967296 : Nat) : Int) := by rw [IntKind.wrap_u32]; omega
  have e2 : IntKind.u32.wrap (b : Int) = (b : Int) := by rw [IntKind.wrap_u32]; omega
  rw [e1, e2, u32_or_nat _ _ (Nat.mod_lt _ (by omega)) (by omega), or_low _ _ hb]

set_option maxRecDepth 100000 in
set_option maxHeartbeats 1000000 in
theorem dshift_any (N g o cap : Nat) (l : List UInt8) (s : Rd.St) (w : World) (hE : DecIs w g o cap l s) (hf : s.fits l) (hl : l.length ≤ 140737488355328) (hr : s.out = false → 16777216 ≤ s.r * 256 ^ N) :
    Calls Try.prog 137 #[.pointer (some ⟨g, 0, none⟩)] w (Did (Moved w g o cap l (Rd.scale l N s))) := by
  go_enter Try.func137, Try.ntmps137
  go_wp2_with fail
  go_loopg [16] N (fun gk s16 wr => ∃ (t : Rd.St), DecIs wr g o cap l t ∧ t.fits l ∧ Hid (t.out = false → 16777216 ≤ t.r * 256 ^ gk) ∧ Hid (Rd.scale l N s = Rd.scale l gk t) ∧ Only [g] w wr)
  case atStart => exact ⟨s, hE, hf, hr, rfl, Only.refl _ _⟩
  case round =>
    obtain ⟨t, ⟨x, y, hxy, hT⟩, hft, hrt, hsc, hon⟩ := hrel
    clear hE hf hr
    obtain ⟨pos, c, r, out⟩ := t
    have k0 := c50 hT.blk
    have k1 := c51 hT.blk
    have k2 := c52 hT.blk
    have k3 := c53 hT.blk
    have k4 := c54 hT.blk
    have f0 := frozen_of_row wr g 0 _ _ hT.blk
    have f1 := frozen_of_row wr g 1 _ _ hT.blk
    simp only at k0 k1 k2 k3 k4
    cases out with
    | true =>
      have hst : Rd.scale l gk ⟨pos, c, r, true⟩ = ⟨pos, c, r, true⟩ := Rd.scale_out rfl
      have HST := Lib.hid (hsc.out.trans hst)
      clear hst hxy hrt hsc hft
      by_cases hy : y < 16777216
      · have hy' : (y : Int) < 16777216 := by omega
        go_wp2_with fail
        go_end0
        exact ⟨rfl, by rw [HST.out]; exact ⟨x, y, by simp, hT⟩, hon⟩
      · have hy' : ¬ (y : Int) < 16777216 := by omega
        go_wp2_with fail
        go_end0
        exact ⟨rfl, by rw [HST.out]; exact ⟨x, y, by simp, hT⟩, hon⟩
    | false =>
      obtain rfl : c = x := (hxy rfl).1.symm
      obtain rfl : r = y := (hxy rfl).2.symm
      simp only at hT k0 k1 hft
      by_cases hy : r < 16777216
      · have hy' : (r : Int) < 16777216 := by omega
        cases gk with
        | zero => have := hrt.out rfl; simp at this; omega
        | succ gk =>
          have hstep := Rd.scale_step (l := l) (N := gk) (s := ⟨pos, c, r, false⟩) rfl hy
          have HST := Lib.hid (hsc.out.trans hstep)
          clear hstep
          have hT1 : DecAt (wr.setCell ⟨g, 1, none⟩ (.int .u32 ((r * 256 : Nat) : Int))) g o cap l c (r * 256) pos false := ⟨s51 hT.blk _, bytes_set hT.own hT.ne _, hT.ne, by simpa using hT.lt⟩
          have hon1 : Only [g] w (wr.setCell ⟨g, 1, none⟩ (.int .u32 ((r * 256 : Nat) : Int))) := hon.setCell (.inl (by simp)) _
          have hmul : ((r * 256 : Nat) : Int) = (r : Int) * 256 := by omega
          rw [hmul] at hon1
          have hT2 : DecAt (wr.setCell ⟨g, 1, none⟩ (.int .u32 ((r : Int) * 256))) g o cap l c (r * 256) pos false := by rw [← hmul]; exact hT1
          clear hT1
          generalize hw1 : wr.setCell ⟨g, 1, none⟩ (.int .u32 ((r : Int) * 256)) = w1 at *
          have HW1 := Lib.hid hw1
          have hnx : 16777216 ≤ r * 256 * 256 ^ gk := by
            have := hrt.out rfl
            rw [Nat.pow_succ, Nat.mul_comm (256 ^ gk), ← Nat.mul_assoc] at this; exact this
          have HNX := Lib.hid hnx
          clear hw1 hmul hxy hrt hsc hnx
          go_upto_region 3 with (fail)
          rw [HW1.out]
          have k0d : w1.drew.cell? ⟨g, 0, none⟩ = some (.int .u32 (c : Nat)) := c50 hT2.blk
          clear k0 k1 k2 k3 k4 f0 f1 hT HW1 hon
          by_cases hp : pos < l.length
          · have hcall := Lib.hid (next_read g o cap l c (r * 256) pos w1.drew (hT2.below (drew_below _)) hp hl)
            refine wp_region_held_drew (S := fun _ => True) (by kernel_rfl) trivial (fun hS => ?_)
            refine tk 0 (v := ?va1) ?ya1 hS ?_
            case ya1 =>
              intro w hSw
              go_simp; all_goals (with_reducible rfl)
            simp only [Act.put, List.setIfInBounds_toArray, List.set_cons_zero, List.set_cons_succ]
            refine tk 1 (v := ?va2) ?ya2 hS ?_
            case ya2 =>
              intro w hSw
              go_simp; all_goals (with_reducible rfl)
            simp only [Act.put, List.setIfInBounds_toArray, List.set_cons_zero, List.set_cons_succ]
            refine tk 2 (v := ?va3) ?ya3 hS ?_
            case ya3 =>
              intro w hSw
              go_simp; all_goals (with_reducible rfl)
            simp only [Act.put, List.setIfInBounds_toArray, List.set_cons_zero, List.set_cons_succ]
            refine tk 3 (v := ?va4) ?ya4 hS ?_
            case ya4 =>
              intro w hSw
              go_simp; all_goals (with_reducible rfl)
            simp only [Act.put, List.setIfInBounds_toArray, List.set_cons_zero, List.set_cons_succ]
            refine tk 6 (v := ?va5) ?ya5 hS ?_
            case ya5 =>
              intro w hSw
              go_simp; all_goals (with_reducible rfl)
            simp only [Act.put, List.setIfInBounds_toArray, List.set_cons_zero, List.set_cons_succ]
            refine wpAnyH_ready (rs := [4, 7]) (by kernel_rfl) (by simp) ?_
            refine (AllReadyH.cons (o := { dst := some 28, op := Op.load 31 (Operand.tmp 27), type := 31, pos := "rcdec.go:102", after := #[{ on := 3, ground := Ground.data }], guard := none }) rfl (fun K hK => ?_) (AllReadyH.cons (o := { dst := some 31, op := Op.call { callee := Callee.value (Operand.tmp 30), args := #[], argTypes := #[] }, type := 5, pos := "rcdec.go:102", after := #[{ on := 6, ground := Ground.data }], guard := none }) rfl (fun K hK => ?_) AllReadyH.nil))
            · skip
              go_simp
              refine hK.out _ _ trivial (fun _ => ?_)
              clear hK K
              refine tk 5 (v := ?va6) ?ya6 trivial ?_
              case ya6 =>
                intro w hSw
                go_simp; all_goals (with_reducible rfl)
              simp only [Act.put, List.setIfInBounds_toArray, List.set_cons_zero, List.set_cons_succ]
              refine wpAnyH_ready (rs := [7]) (by kernel_rfl) (by simp) ?_
              refine (AllReadyH.cons (o := { dst := some 31, op := Op.call { callee := Callee.value (Operand.tmp 30), args := #[], argTypes := #[] }, type := 5, pos := "rcdec.go:102", after := #[{ on := 6, ground := Ground.data }], guard := none }) rfl (fun K hK => ?_) AllReadyH.nil)
              go_simp
              refine hcall.out.mono ?_
              rintro e w3 ⟨rfl, hT3, hon3⟩
              have hj := c50 hT3.blk
              have fj := frozen_of_row w3 g 0 _ _ hT3.blk
              go_wp2_with fail
              refine hK.out _ _ trivial (fun _ => ?_)
              clear hK K
              refine tk 8 (v := ?va7) ?ya7 trivial ?_
              case ya7 =>
                intro w hSw
                go_simp; all_goals (with_reducible rfl)
              simp only [Act.put, List.setIfInBounds_toArray, List.set_cons_zero, List.set_cons_succ]
              refine tk 9 (v := ?va8) ?ya8 trivial ?_
              case ya8 =>
                intro w hSw
                go_simp; all_goals (with_reducible rfl)
              simp only [Act.put, List.setIfInBounds_toArray, List.set_cons_zero, List.set_cons_succ]
              refine tk 10 (v := ?va9) ?ya9 trivial ?_
              case ya9 =>
                intro w hSw
                go_simp; all_goals (with_reducible rfl)
              simp only [Act.put, List.setIfInBounds_toArray, List.set_cons_zero, List.set_cons_succ]
              refine tk 11 (v := ?va10) ?ya10 trivial ?_
              case ya10 =>
                intro w hSw
                go_simp; all_goals (with_reducible rfl)
              simp only [Act.put, List.setIfInBounds_toArray, List.set_cons_zero, List.set_cons_succ]
              refine wpAnyH_ready (rs := [12]) (by kernel_rfl) (by simp) ?_
              refine (AllReadyH.cons (o := { dst := none, op := Op.store 31 (Operand.tmp 35) (Operand.tmp 33), type := 0, pos := "rcdec.go:102", after := #[{ on := 11, ground := Ground.data }, { on := 9, ground := Ground.data }, { on := 7, ground := Ground.chain }, { on := 0, ground := Ground.phase }, { on := 1, ground := Ground.phase }, { on := 2, ground := Ground.phase }, { on := 3, ground := Ground.phase }, { on := 4, ground := Ground.phase }, { on := 5, ground := Ground.phase }, { on := 6, ground := Ground.phase }, { on := 7, ground := Ground.phase }, { on := 8, ground := Ground.phase }, { on := 9, ground := Ground.phase }], guard := none }) rfl (fun K hK => ?_) AllReadyH.nil)
              go_simp
              refine hK.out _ _ trivial (fun _ => ?_)
              clear hK K
              refine wpAnyH_done (by kernel_rfl) ?_ _
              have hbl : (l[pos]).toNat < 256 := (l[pos]).toNat_lt
              rw [code_step c (l[pos]).toNat hbl]
              have hfn := Rd.next_fits hft hy
              have hnx := Rd.next_in (l := l) (s := ⟨pos, c, r, false⟩) hp
              rw [hnx] at hfn HST
              simp only at hfn HST
              generalize (256 * c + (l[pos]).toNat) % 4294967296 = C at *
              have hT4 : DecAt (w3.setCell ⟨g, 0, none⟩ (.int .u32 (C : Nat))) g o cap l C (r * 256) (pos + 1) false := ⟨s50 hT3.blk _, bytes_set hT3.own hT3.ne _, hT3.ne, by simpa using hT3.lt⟩
              have hon4 : Only [g] w (w3.setCell ⟨g, 0, none⟩ (.int .u32 (C : Nat))) := (hon1.trans (hon3.undrew) (by simp)).setCell (.inl (by simp)) _
              clear hnx hcall hT3 hon3 hj fj k0d hT2 hon1
              go_wp2_with fail
              go_roundg gk
              case measure => omega
              case rel => exact ⟨⟨pos + 1, C, r * 256, false⟩, ⟨C, r * 256, fun _ => ⟨rfl, rfl⟩, hT4⟩, hfn, fun _ => HNX.out, HST.out, hon4⟩
            · skip
              go_simp
              refine hcall.out.mono ?_
              rintro e w3 ⟨rfl, hT3, hon3⟩
              have hj := c50 hT3.blk
              have fj := frozen_of_row w3 g 0 _ _ hT3.blk
              go_wp2_with fail
              refine hK.out _ _ trivial (fun _ => ?_)
              clear hK K
              refine tk 8 (v := ?va11) ?ya11 trivial ?_
              case ya11 =>
                intro w hSw
                go_simp; all_goals (with_reducible rfl)
              simp only [Act.put, List.setIfInBounds_toArray, List.set_cons_zero, List.set_cons_succ]
              refine wpAnyH_ready (rs := [4]) (by kernel_rfl) (by simp) ?_
              refine (AllReadyH.cons (o := { dst := some 28, op := Op.load 31 (Operand.tmp 27), type := 31, pos := "rcdec.go:102", after := #[{ on := 3, ground := Ground.data }], guard := none }) rfl (fun K hK => ?_) AllReadyH.nil)
              go_simp
              refine hK.out _ _ trivial (fun _ => ?_)
              clear hK K
              refine tk 5 (v := ?va12) ?ya12 trivial ?_
              case ya12 =>
                intro w hSw
                go_simp; all_goals (with_reducible rfl)
              simp only [Act.put, List.setIfInBounds_toArray, List.set_cons_zero, List.set_cons_succ]
              refine tk 9 (v := ?va13) ?ya13 trivial ?_
              case ya13 =>
                intro w hSw
                go_simp; all_goals (with_reducible rfl)
              simp only [Act.put, List.setIfInBounds_toArray, List.set_cons_zero, List.set_cons_succ]
              refine tk 10 (v := ?va14) ?ya14 trivial ?_
              case ya14 =>
                intro w hSw
                go_simp; all_goals (with_reducible rfl)
              simp only [Act.put, List.setIfInBounds_toArray, List.set_cons_zero, List.set_cons_succ]
              refine tk 11 (v := ?va15) ?ya15 trivial ?_
              case ya15 =>
                intro w hSw
                go_simp; all_goals (with_reducible rfl)
              simp only [Act.put, List.setIfInBounds_toArray, List.set_cons_zero, List.set_cons_succ]
              refine wpAnyH_ready (rs := [12]) (by kernel_rfl) (by simp) ?_
              refine (AllReadyH.cons (o := { dst := none, op := Op.store 31 (Operand.tmp 35) (Operand.tmp 33), type := 0, pos := "rcdec.go:102", after := #[{ on := 11, ground := Ground.data }, { on := 9, ground := Ground.data }, { on := 7, ground := Ground.chain }, { on := 0, ground := Ground.phase }, { on := 1, ground := Ground.phase }, { on := 2, ground := Ground.phase }, { on := 3, ground := Ground.phase }, { on := 4, ground := Ground.phase }, { on := 5, ground := Ground.phase }, { on := 6, ground := Ground.phase }, { on := 7, ground := Ground.phase }, { on := 8, ground := Ground.phase }, { on := 9, ground := Ground.phase }], guard := none }) rfl (fun K hK => ?_) AllReadyH.nil)
              go_simp
              refine hK.out _ _ trivial (fun _ => ?_)
              clear hK K
              refine wpAnyH_done (by kernel_rfl) ?_ _
              have hbl : (l[pos]).toNat < 256 := (l[pos]).toNat_lt
              rw [code_step c (l[pos]).toNat hbl]
              have hfn := Rd.next_fits hft hy
              have hnx := Rd.next_in (l := l) (s := ⟨pos, c, r, false⟩) hp
              rw [hnx] at hfn HST
              simp only at hfn HST
              generalize (256 * c + (l[pos]).toNat) % 4294967296 = C at *
              have hT4 : DecAt (w3.setCell ⟨g, 0, none⟩ (.int .u32 (C : Nat))) g o cap l C (r * 256) (pos + 1) false := ⟨s50 hT3.blk _, bytes_set hT3.own hT3.ne _, hT3.ne, by simpa using hT3.lt⟩
              have hon4 : Only [g] w (w3.setCell ⟨g, 0, none⟩ (.int .u32 (C : Nat))) := (hon1.trans (hon3.undrew) (by simp)).setCell (.inl (by simp)) _
              clear hnx hcall hT3 hon3 hj fj k0d hT2 hon1
              go_wp2_with fail
              go_roundg gk
              case measure => omega
              case rel => exact ⟨⟨pos + 1, C, r * 256, false⟩, ⟨C, r * 256, fun _ => ⟨rfl, rfl⟩, hT4⟩, hfn, fun _ => HNX.out, HST.out, hon4⟩

          · obtain rfl : l.length = pos := by have : pos ≤ l.length := hft.1; omega
            have hcall := Lib.hid (next_out g o cap l c (r * 256) w1.drew (hT2.below (drew_below _)))
            refine wp_region_held_drew (S := fun _ => True) (by kernel_rfl) trivial (fun hS => ?_)
            refine tk 0 (v := ?vb16) ?yb16 hS ?_
            case yb16 =>
              intro w hSw
              go_simp; all_goals (with_reducible rfl)
            simp only [Act.put, List.setIfInBounds_toArray, List.set_cons_zero, List.set_cons_succ]
            refine tk 1 (v := ?vb17) ?yb17 hS ?_
            case yb17 =>
              intro w hSw
              go_simp; all_goals (with_reducible rfl)
            simp only [Act.put, List.setIfInBounds_toArray, List.set_cons_zero, List.set_cons_succ]
            refine tk 2 (v := ?vb18) ?yb18 hS ?_
            case yb18 =>
              intro w hSw
              go_simp; all_goals (with_reducible rfl)
            simp only [Act.put, List.setIfInBounds_toArray, List.set_cons_zero, List.set_cons_succ]
            refine tk 3 (v := ?vb19) ?yb19 hS ?_
            case yb19 =>
              intro w hSw
              go_simp; all_goals (with_reducible rfl)
            simp only [Act.put, List.setIfInBounds_toArray, List.set_cons_zero, List.set_cons_succ]
            refine tk 6 (v := ?vb20) ?yb20 hS ?_
            case yb20 =>
              intro w hSw
              go_simp; all_goals (with_reducible rfl)
            simp only [Act.put, List.setIfInBounds_toArray, List.set_cons_zero, List.set_cons_succ]
            refine wpAnyH_ready (rs := [4, 7]) (by kernel_rfl) (by simp) ?_
            refine (AllReadyH.cons (o := { dst := some 28, op := Op.load 31 (Operand.tmp 27), type := 31, pos := "rcdec.go:102", after := #[{ on := 3, ground := Ground.data }], guard := none }) rfl (fun K hK => ?_) (AllReadyH.cons (o := { dst := some 31, op := Op.call { callee := Callee.value (Operand.tmp 30), args := #[], argTypes := #[] }, type := 5, pos := "rcdec.go:102", after := #[{ on := 6, ground := Ground.data }], guard := none }) rfl (fun K hK => ?_) AllReadyH.nil))
            · skip
              go_simp
              refine hK.out _ _ trivial (fun _ => ?_)
              clear hK K
              refine tk 5 (v := ?vb21) ?yb21 trivial ?_
              case yb21 =>
                intro w hSw
                go_simp; all_goals (with_reducible rfl)
              simp only [Act.put, List.setIfInBounds_toArray, List.set_cons_zero, List.set_cons_succ]
              refine wpAnyH_ready (rs := [7]) (by kernel_rfl) (by simp) ?_
              refine (AllReadyH.cons (o := { dst := some 31, op := Op.call { callee := Callee.value (Operand.tmp 30), args := #[], argTypes := #[] }, type := 5, pos := "rcdec.go:102", after := #[{ on := 6, ground := Ground.data }], guard := none }) rfl (fun K hK => ?_) AllReadyH.nil)
              go_simp
              refine hcall.out.mono ?_
              rintro e w3 ⟨rfl, hT3, hon3⟩
              have hj := c50 hT3.blk
              have fj := frozen_of_row w3 g 0 _ _ hT3.blk
              go_wp2_with fail
              refine hK.out _ _ trivial (fun _ => ?_)
              clear hK K
              refine tk 8 (v := ?vb22) ?yb22 trivial ?_
              case yb22 =>
                intro w hSw
                go_simp; all_goals (with_reducible rfl)
              simp only [Act.put, List.setIfInBounds_toArray, List.set_cons_zero, List.set_cons_succ]
              refine tk 9 (v := ?vb23) ?yb23 trivial ?_
              case yb23 =>
                intro w hSw
                go_simp; all_goals (with_reducible rfl)
              simp only [Act.put, List.setIfInBounds_toArray, List.set_cons_zero, List.set_cons_succ]
              refine tk 10 (v := ?vb24) ?yb24 trivial ?_
              case yb24 =>
                intro w hSw
                go_simp; all_goals (with_reducible rfl)
              simp only [Act.put, List.setIfInBounds_toArray, List.set_cons_zero, List.set_cons_succ]
              refine tk 11 (v := ?vb25) ?yb25 trivial ?_
              case yb25 =>
                intro w hSw
                go_simp; all_goals (with_reducible rfl)
              simp only [Act.put, List.setIfInBounds_toArray, List.set_cons_zero, List.set_cons_succ]
              refine wpAnyH_ready (rs := [12]) (by kernel_rfl) (by simp) ?_
              refine (AllReadyH.cons (o := { dst := none, op := Op.store 31 (Operand.tmp 35) (Operand.tmp 33), type := 0, pos := "rcdec.go:102", after := #[{ on := 11, ground := Ground.data }, { on := 9, ground := Ground.data }, { on := 7, ground := Ground.chain }, { on := 0, ground := Ground.phase }, { on := 1, ground := Ground.phase }, { on := 2, ground := Ground.phase }, { on := 3, ground := Ground.phase }, { on := 4, ground := Ground.phase }, { on := 5, ground := Ground.phase }, { on := 6, ground := Ground.phase }, { on := 7, ground := Ground.phase }, { on := 8, ground := Ground.phase }, { on := 9, ground := Ground.phase }], guard := none }) rfl (fun K hK => ?_) AllReadyH.nil)
              go_simp
              refine hK.out _ _ trivial (fun _ => ?_)
              clear hK K
              refine wpAnyH_done (by kernel_rfl) ?_ _
              have h0 : bits .or .u32 (IntKind.u32.wrap ((c : Int) * 256)) (IntKind.u32.wrap 0) = (((256 * c + 0) % 4294967296 : Nat) : Int) := code_step c 0 (by omega)
              rw [h0]
              have hfn := Rd.next_fits hft hy
              have hnx := Rd.next_end (l := l) (s := ⟨l.length, c, r, false⟩) hp
              rw [hnx] at hfn HST
              simp only at hfn HST
              generalize (256 * c + 0) % 4294967296 = C at *
              have hT4 : DecAt (w3.setCell ⟨g, 0, none⟩ (.int .u32 (C : Nat))) g o cap l C (r * 256) l.length true := ⟨s50 hT3.blk _, bytes_set hT3.own hT3.ne _, hT3.ne, by simpa using hT3.lt⟩
              have hon4 : Only [g] w (w3.setCell ⟨g, 0, none⟩ (.int .u32 (C : Nat))) := (hon1.trans (hon3.undrew) (by simp)).setCell (.inl (by simp)) _
              clear hnx hcall hT3 hon3 hj fj k0d hT2 hon1 h0
              go_wp2_with fail
              go_roundg gk
              case measure => omega
              case rel => exact ⟨⟨l.length, 0, 0, true⟩, ⟨C, r * 256, (fun h => by cases h), hT4⟩, hfn, (fun h => by cases h), HST.out, hon4⟩
            · skip
              go_simp
              refine hcall.out.mono ?_
              rintro e w3 ⟨rfl, hT3, hon3⟩
              have hj := c50 hT3.blk
              have fj := frozen_of_row w3 g 0 _ _ hT3.blk
              go_wp2_with fail
              refine hK.out _ _ trivial (fun _ => ?_)
              clear hK K
              refine tk 8 (v := ?vb26) ?yb26 trivial ?_
              case yb26 =>
                intro w hSw
                go_simp; all_goals (with_reducible rfl)
              simp only [Act.put, List.setIfInBounds_toArray, List.set_cons_zero, List.set_cons_succ]
              refine wpAnyH_ready (rs := [4]) (by kernel_rfl) (by simp) ?_
              refine (AllReadyH.cons (o := { dst := some 28, op := Op.load 31 (Operand.tmp 27), type := 31, pos := "rcdec.go:102", after := #[{ on := 3, ground := Ground.data }], guard := none }) rfl (fun K hK => ?_) AllReadyH.nil)
              go_simp
              refine hK.out _ _ trivial (fun _ => ?_)
              clear hK K
              refine tk 5 (v := ?vb27) ?yb27 trivial ?_
              case yb27 =>
                intro w hSw
                go_simp; all_goals (with_reducible rfl)
              simp only [Act.put, List.setIfInBounds_toArray, List.set_cons_zero, List.set_cons_succ]
              refine tk 9 (v := ?vb28) ?yb28 trivial ?_
              case yb28 =>
                intro w hSw
                go_simp; all_goals (with_reducible rfl)
              simp only [Act.put, List.setIfInBounds_toArray, List.set_cons_zero, List.set_cons_succ]
              refine tk 10 (v := ?vb29) ?yb29 trivial ?_
              case yb29 =>
                intro w hSw
                go_simp; all_goals (with_reducible rfl)
              simp only [Act.put, List.setIfInBounds_toArray, List.set_cons_zero, List.set_cons_succ]
              refine tk 11 (v := ?vb30) ?yb30 trivial ?_
              case yb30 =>
                intro w hSw
                go_simp; all_goals (with_reducible rfl)
              simp only [Act.put, List.setIfInBounds_toArray, List.set_cons_zero, List.set_cons_succ]
              refine wpAnyH_ready (rs := [12]) (by kernel_rfl) (by simp) ?_
              refine (AllReadyH.cons (o := { dst := none, op := Op.store 31 (Operand.tmp 35) (Operand.tmp 33), type := 0, pos := "rcdec.go:102", after := #[{ on := 11, ground := Ground.data }, { on := 9, ground := Ground.data }, { on := 7, ground := Ground.chain }, { on := 0, ground := Ground.phase }, { on := 1, ground := Ground.phase }, { on := 2, ground := Ground.phase }, { on := 3, ground := Ground.phase }, { on := 4, ground := Ground.phase }, { on := 5, ground := Ground.phase }, { on := 6, ground := Ground.phase }, { on := 7, ground := Ground.phase }, { on := 8, ground := Ground.phase }, { on := 9, ground := Ground.phase }], guard := none }) rfl (fun K hK => ?_) AllReadyH.nil)
              go_simp
              refine hK.out _ _ trivial (fun _ => ?_)
              clear hK K
              refine wpAnyH_done (by kernel_rfl) ?_ _
              have h0 : bits .or .u32 (IntKind.u32.wrap ((c : Int) * 256)) (IntKind.u32.wrap 0) = (((256 * c + 0) % 4294967296 : Nat) : Int) := code_step c 0 (by omega)
              rw [h0]
              have hfn := Rd.next_fits hft hy
              have hnx := Rd.next_end (l := l) (s := ⟨l.length, c, r, false⟩) hp
              rw [hnx] at hfn HST
              simp only at hfn HST
              generalize (256 * c + 0) % 4294967296 = C at *
              have hT4 : DecAt (w3.setCell ⟨g, 0, none⟩ (.int .u32 (C : Nat))) g o cap l C (r * 256) l.length true := ⟨s50 hT3.blk _, bytes_set hT3.own hT3.ne _, hT3.ne, by simpa using hT3.lt⟩
              have hon4 : Only [g] w (w3.setCell ⟨g, 0, none⟩ (.int .u32 (C : Nat))) := (hon1.trans (hon3.undrew) (by simp)).setCell (.inl (by simp)) _
              clear hnx hcall hT3 hon3 hj fj k0d hT2 hon1 h0
              go_wp2_with fail
              go_roundg gk
              case measure => omega
              case rel => exact ⟨⟨l.length, 0, 0, true⟩, ⟨C, r * 256, (fun h => by cases h), hT4⟩, hfn, (fun h => by cases h), HST.out, hon4⟩

      · have hy' : ¬ (r : Int) < 16777216 := by omega
        have hst : Rd.scale l gk ⟨pos, c, r, false⟩ = ⟨pos, c, r, false⟩ := Rd.scale_big hy
        have HST := Lib.hid (hsc.out.trans hst)
        clear hst hxy hrt hsc hy hft
        go_wp2_with fail
        go_end0
        exact ⟨rfl, by rw [HST.out]; exact ⟨c, r, fun _ => ⟨rfl, rfl⟩, hT⟩, hon⟩
end Go.Proofs.Ytkckjjchfccdjaa
