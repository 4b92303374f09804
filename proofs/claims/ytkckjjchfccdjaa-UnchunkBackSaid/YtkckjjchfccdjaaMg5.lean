/- Several texts in one: RdPlain, Shelf, RcBytes. -/
import Derived.Test.YtkckjjchfccdjaaMg1
import Derived.Test.YtkckjjchfccdjaaRdBit
import Derived.Deep.DeepCutAuto
import Derived.Shelf.Small.Bits
import Derived.Test.YtkckjjchfccdjaaMg3
import Derived.Deep.RegionHeld3
/- The walk over the decoder's Plain. -/
namespace Go.Proofs.Ytkckjjchfccdjaa
set_option maxRecDepth 100000
open Go.RowKit

def DPlain (w : World) (g o cap : Nat) (l : List UInt8) (v : Nat) (s : Rd.St) (e : Ending) (w' : World) : Prop := e = .returned (.int .u32 (v : Nat)) ∧ Moved w g o cap l s w'

theorem Rd.St.plain_of_out {l : List UInt8} {s : Rd.St} {n m : Nat} (hnm : n ≤ m) (h : (s.rounds l n).2.out = true) : s.plain l m = (0, (s.rounds l n).2) := by
  unfold Rd.St.plain; rw [Rd.St.rounds_out hnm h, if_pos h]
theorem Rd.St.plain_of_in {l : List UInt8} {s : Rd.St} {n : Nat} (h : (s.rounds l n).2.out = false) : s.plain l n = s.rounds l n := by
  unfold Rd.St.plain; rw [if_neg (by simp [h])]

set_option maxRecDepth 100000 in
set_option maxHeartbeats 1000000 in
theorem dplain_any (g o cap : Nat) (l : List UInt8) (s : Rd.St) (u : BitVec 32) (n : Int) (w : World) (hE : DecIs w g o cap l s) (hs : s.ok l) (hl : l.length ≤ 140737488355328) :
    Calls Try.prog 136 #[.pointer (some ⟨g, 0, none⟩), .int .u32 u.toNat, .int .i64 n] w (DPlain w g o cap l (s.plain l (many n)).1 (s.plain l (many n)).2) := by
  go_enter Try.func136, Try.ntmps136
  go_upto_region 2 with (fail)
  go_cut [10, 11] (fun s10 s11 wx => w = wx ∧ s10 = .int .i64 ((many n : Nat) : Int) ∧ s11 = .int .i64 0)
  case first =>
    go_wp2_with fail
    all_goals
      go_meet
      refine ⟨rfl, congrArg (Value.int .i64) ?_, rfl⟩
      unfold many
      omega
  case rest =>
    obtain ⟨rfl, rfl, rfl⟩ := hcut
    have hm : many n ≤ 32 := by unfold many; omega
    generalize many n = m at *
    go_wp2_with fail
    go_loopw [7, 11] (fun vv i wr => ∃ t : Nat, t ≤ m ∧ vv = .int .u32 ((s.rounds l t).1 : Nat) ∧ i = .int .i64 (t : Nat) ∧ DecIs wr g o cap l (s.rounds l t).2 ∧ Only [g] w wr) (fun _ i _ => m - (intOf i).toNat)
    case atStart => exact ⟨0, by omega, rfl, rfl, hE, Only.refl _ _⟩
    case round =>
      obtain ⟨t, ht, rfl, rfl, hD, hon⟩ := hrel
      obtain ⟨hqok, hvlt⟩ := Rd.St.rounds_ok hs t
      clear hE
      have hO := Lib.hid (out_any g o cap l _ wr hD)
      by_cases hout : (s.rounds l t).2.out = true
      · have hpl := Rd.St.plain_of_out ht hout
        have HPL := Lib.hid hpl
        rw [hout] at hO
        have HOUT := Lib.hid hout
        generalize (s.rounds l t).2 = q at *
        generalize (s.rounds l t).1 = v at *
        clear hpl hout
        by_cases hlt : t < m
        · have hlt' : (t : Int) < m := by omega
          go_wp2_with fail
          refine hO.out.mono ?_
          rintro e w' ⟨rfl, rfl⟩
          go_wp2_with fail
          go_ret
          exact ⟨by rw [HPL.out]; rfl, by rw [HPL.out]; exact hD, hon⟩
        · have hlt' : ¬ (t : Int) < m := by omega
          go_wp2_with fail
          refine hO.out.mono ?_
          rintro e w' ⟨rfl, rfl⟩
          go_wp2_with fail
          go_ret
          exact ⟨by rw [HPL.out]; rfl, by rw [HPL.out]; exact hD, hon⟩
      · have hout' : (s.rounds l t).2.out = false := by simpa using hout
        rw [hout'] at hO
        have hnext : s.rounds l (t + 1) = (2 * (s.rounds l t).1 + (if (s.rounds l t).2.r / 2 ≤ (s.rounds l t).2.c then 1 else 0), Rd.scale l 1 (s.rounds l t).2.half) := by
          rw [Rd.St.rounds, if_neg hout]
        have HN := Lib.hid hnext
        have HPI := Lib.hid (fun h : t = m => (h ▸ Rd.St.plain_of_in hout' : s.plain l m = s.rounds l t))
        clear hnext hout
        generalize hQ : s.rounds l t = Q at *
        obtain ⟨v, q⟩ := Q
        simp only at HN hqok hvlt hD hout' HPI
        clear hQ
        have hout := hout'
        clear hout'
        by_cases hlt : t < m
        · have hlt' : (t : Int) < m := by omega
          clear HPI
          obtain ⟨x, y, hxy, hT0⟩ := hD
          obtain ⟨pos, c, r, out⟩ := q
          simp only at hout
          subst hout
          obtain rfl : c = x := (hxy rfl).1.symm
          obtain rfl : r = y := (hxy rfl).2.symm
          obtain ⟨hhf, hhr⟩ := Rd.St.half_fits hqok rfl
          have hr32 : r < 4294967296 := hqok.1.2.2
          have hc32 : c < 4294967296 := hqok.1.2.1
          have hT : DecAt wr g o cap l c r pos false := hT0
          have hhalf : Rd.St.half ⟨pos, c, r, false⟩ = if r / 2 ≤ c then ⟨pos, c - r / 2, r / 2, false⟩ else ⟨pos, c, r / 2, false⟩ := rfl
          simp only at HN
          have hr2 : (r : Int) / 2 = ((r / 2 : Nat) : Int) := by omega
          have hrl : r / 2 < 4294967296 := by omega
          have k0 := c50 hT.blk
          have k1 := c51 hT.blk
          have f1 := frozen_of_row wr g 1 _ _ hT.blk
          generalize hrh : r / 2 = rh at *
          have hT1 : DecAt (wr.setCell ⟨g, 1, none⟩ (.int .u32 (rh : Nat))) g o cap l c rh pos false := ⟨s51 hT.blk _, bytes_set hT.own hT.ne _, hT.ne, by simpa using hT.lt⟩
          have hon1 : Only [g] w (wr.setCell ⟨g, 1, none⟩ (.int .u32 (rh : Nat))) := hon.setCell (.inl (by simp)) _
          generalize hw1 : wr.setCell ⟨g, 1, none⟩ (.int .u32 (rh : Nat)) = w1 at *
          have HW1 := Lib.hid hw1
          have HHF := Lib.hid hhalf
          clear hw1 hxy hT0 hrh hqok hhalf
          have q0 : w1.drew.cell? ⟨g, 0, none⟩ = some (.int .u32 (c : Nat)) := c50 hT1.blk
          have q1 : w1.drew.cell? ⟨g, 1, none⟩ = some (.int .u32 (rh : Nat)) := c51 hT1.blk
          have hv2 : 2 * v < 4294967296 := by
            have : 2 ^ (t + 1) ≤ 2 ^ 32 := Nat.pow_le_pow_right (by omega) (by omega)
            rw [Nat.pow_succ] at this; omega
          have hvi : (v : Int) * 2 < 4294967296 := by omega
          by_cases hcr : rh ≤ c
          · have hhe : Rd.St.half ⟨pos, c, r, false⟩ = ⟨pos, c - rh, rh, false⟩ := by rw [HHF.out, if_pos hcr]
            have hci : (rh : Int) ≤ (c : Int) := by omega
            rw [if_pos hcr, hhe] at HN
            rw [hhe] at hhf hhr
            have hsub : IntKind.u32.wrap ((c : Int) - (rh : Int)) = ((c - rh : Nat) : Int) := by rw [IntKind.wrap_u32]; omega
            have hor : bits .or .u32 ((v : Int) * 2) 1 = ((2 * v + 1 : Nat) : Int) := by
              rw [show (v : Int) * 2 = ((v * 2 : Nat) : Int) by omega, show (1 : Int) = ((1 : Nat) : Int) from rfl, u32_or_nat _ _ (by omega) (by omega)]
              congr 1
              have e1 : v * 2 = v <<< 1 := by rw [Nat.shiftLeft_eq]
              rw [e1, ← Nat.shiftLeft_add_eq_or_of_lt (by omega), Nat.shiftLeft_eq]; omega
            have hcb : c - rh < 4294967296 := by omega
            generalize c - rh = cb at *
            generalize hV2 : 2 * v + 1 = v2 at *
            have HV2 := Lib.hid hV2
            clear hhe hV2
            go_wp2_with fail
            refine hO.out.mono ?_
            rintro e w' ⟨rfl, rfl⟩
            go_upto_region 8 with (fail)
            rw [HW1.out]
            clear k0 k1 f1 HW1 hO
            refine wp_region_held_drew (S := fun w' => w'.cell? ⟨g, 0, none⟩ = some (.int .u32 (c : Nat)) ∧ w'.cell? ⟨g, 1, none⟩ = some (.int .u32 (rh : Nat))) (by kernel_rfl) ⟨q0, q1⟩ (fun hS => ?_)
            refine tk 0 (v := ?va1) ?ya1 hS ?_
            case ya1 =>
              intro w hSw
              go_simp; all_goals (with_reducible rfl)
            simp only [Act.put, List.setIfInBounds_toArray, List.set_cons_zero, List.set_cons_succ]
            refine tk 1 (v := ?va2) ?ya2 hS ?_
            case ya2 =>
              intro w hSw
              go_simp; all_goals (with_reducible rfl)
            simp only [Act.put, List.setIfInBounds_toArray, List.set_cons_zero, List.set_cons_succ]
            refine tk 2 (v := ?va3) ?ya3 hS ?_
            case ya3 =>
              intro w hSw
              go_simp; all_goals (with_reducible rfl)
            simp only [Act.put, List.setIfInBounds_toArray, List.set_cons_zero, List.set_cons_succ]
            refine tk 3 (v := ?va4) ?ya4 hS ?_
            case ya4 =>
              intro w hSw
              obtain ⟨j0, j1⟩ := hSw
              go_simp; all_goals (with_reducible rfl)
            simp only [Act.put, List.setIfInBounds_toArray, List.set_cons_zero, List.set_cons_succ]
            refine tk 4 (v := ?va5) ?ya5 hS ?_
            case ya5 =>
              intro w hSw
              go_simp; all_goals (with_reducible rfl)
            simp only [Act.put, List.setIfInBounds_toArray, List.set_cons_zero, List.set_cons_succ]
            refine tk 5 (v := ?va6) ?ya6 hS ?_
            case ya6 =>
              intro w hSw
              go_simp; all_goals (with_reducible rfl)
            simp only [Act.put, List.setIfInBounds_toArray, List.set_cons_zero, List.set_cons_succ]
            refine tk 6 (v := ?va7) ?ya7 hS ?_
            case ya7 =>
              intro w hSw
              go_simp; all_goals (with_reducible rfl)
            simp only [Act.put, List.setIfInBounds_toArray, List.set_cons_zero, List.set_cons_succ]
            refine tk 7 (v := ?va8) ?ya8 hS ?_
            case ya8 =>
              intro w hSw
              obtain ⟨j0, j1⟩ := hSw
              go_simp; all_goals (with_reducible rfl)
            simp only [Act.put, List.setIfInBounds_toArray, List.set_cons_zero, List.set_cons_succ]
            refine tk 8 (v := ?va9) ?ya9 hS ?_
            case ya9 =>
              intro w hSw
              go_simp; all_goals (with_reducible rfl)
            simp only [Act.put, List.setIfInBounds_toArray, List.set_cons_zero, List.set_cons_succ]
            refine wpAnyH_done (by kernel_rfl) ?_ _
            have hT2 := hT1.below (drew_below w1)
            have hon2 := hon1.drew
            clear q0 q1 hT1 hon1
            generalize w1.drew = wd at *
            go_upto_region 9 with (fail)
            have k0 : wd.drew.cell? ⟨g, 0, none⟩ = some (.int .u32 (c : Nat)) := c50 hT2.blk
            have q1 : wd.drew.cell? ⟨g, 1, none⟩ = some (.int .u32 (rh : Nat)) := c51 hT2.blk
            have f0 : wd.drew.frozen? ⟨g, 0, none⟩ = false := frozen_of_row wd.drew g 0 _ _ hT2.blk
            have hT3a : DecAt (wd.setCell ⟨g, 0, none⟩ (.int .u32 (cb : Nat))) g o cap l cb rh pos false := ⟨s50 hT2.blk _, bytes_set hT2.own hT2.ne _, hT2.ne, by simpa using hT2.lt⟩
            have hT3 := hT3a.below (drew_below _)
            have hon3 : Only [g] w (wd.setCell ⟨g, 0, none⟩ (.int .u32 (cb : Nat))).drew := (hon2.setCell (.inl (by simp)) _).drew
            have hq : (wd.setCell ⟨g, 0, none⟩ (.int .u32 (cb : Nat))).drew.cell? ⟨g, 1, none⟩ = some (.int .u32 (rh : Nat)) := c51 hT3.blk
            clear hT3a
            have hsh := Lib.hid (dshift_any 1 g o cap l ⟨pos, cb, rh, false⟩ _ ⟨_, _, (fun _ => ⟨rfl, rfl⟩), hT3⟩ hhf hl (fun _ => by show 16777216 ≤ rh * 256 ^ 1; have : 8388608 ≤ rh := hhr; omega))
            refine wp_region_held_drew (S := fun w' => w'.cell? ⟨g, 1, none⟩ = some (.int .u32 (rh : Nat))) (by kernel_rfl) q1 (fun hS => ?_)
            refine tk 0 (v := ?vb10) ?yb10 hS ?_
            case yb10 =>
              intro w hSw
              go_simp; all_goals (with_reducible rfl)
            simp only [Act.put, List.setIfInBounds_toArray, List.set_cons_zero, List.set_cons_succ]
            refine tk 1 (v := ?vb11) ?yb11 hS ?_
            case yb11 =>
              intro w hSw
              go_simp; all_goals (with_reducible rfl)
            simp only [Act.put, List.setIfInBounds_toArray, List.set_cons_zero, List.set_cons_succ]
            refine tk 2 (v := ?vb12) ?yb12 hS ?_
            case yb12 =>
              intro w hSw
              go_simp; all_goals (with_reducible rfl)
            simp only [Act.put, List.setIfInBounds_toArray, List.set_cons_zero, List.set_cons_succ]
            refine tk 4 (v := ?vb13) ?yb13 hS ?_
            case yb13 =>
              intro w hSw
              go_simp; all_goals (with_reducible rfl)
            simp only [Act.put, List.setIfInBounds_toArray, List.set_cons_zero, List.set_cons_succ]
            refine tk 5 (v := ?vb14) ?yb14 hS ?_
            case yb14 =>
              intro w hSw
              go_simp; all_goals (with_reducible rfl)
            simp only [Act.put, List.setIfInBounds_toArray, List.set_cons_zero, List.set_cons_succ]
            refine tk 6 (v := ?vb15) ?yb15 hS ?_
            case yb15 =>
              intro w hSw
              go_simp; all_goals (with_reducible rfl)
            simp only [Act.put, List.setIfInBounds_toArray, List.set_cons_zero, List.set_cons_succ]
            refine tk 7 (v := ?vb16) ?yb16 hS ?_
            case yb16 =>
              intro w hSw
              have j1 := hSw
              go_simp; all_goals (with_reducible rfl)
            simp only [Act.put, List.setIfInBounds_toArray, List.set_cons_zero, List.set_cons_succ]
            refine wpAnyH_ready (rs := [3]) (by kernel_rfl) (by simp) ?_
            refine (AllReadyH.cons (o := { dst := some 36, op := Op.load 31 (Operand.tmp 35), type := 31, pos := "rcdec.go:58", after := #[{ on := 2, ground := Ground.data }], guard := none }) rfl (fun K hK => ?_) AllReadyH.nil)
            go_simp
            refine hK.out _ _ hS (fun _ => ?_)
            clear hK K
            refine tk 8 (v := ?vb17) ?yb17 hS ?_
            case yb17 =>
              intro w hSw
              go_simp; all_goals (with_reducible rfl)
            simp only [Act.put, List.setIfInBounds_toArray, List.set_cons_zero, List.set_cons_succ]
            refine tk 9 (v := ?vb18) ?yb18 hS ?_
            case yb18 =>
              intro w hSw
              go_simp; all_goals (with_reducible rfl)
            simp only [Act.put, List.setIfInBounds_toArray, List.set_cons_zero, List.set_cons_succ]
            refine tk 10 (v := ?vb19) ?yb19 hS ?_
            case yb19 =>
              intro w hSw
              go_simp; all_goals (with_reducible rfl)
            simp only [Act.put, List.setIfInBounds_toArray, List.set_cons_zero, List.set_cons_succ]
            refine wpAnyH_ready (rs := [11]) (by kernel_rfl) (by simp) ?_
            refine (AllReadyH.cons (o := { dst := none, op := Op.store 31 (Operand.tmp 43) (Operand.tmp 41), type := 0, pos := "rcdec.go:58", after := #[{ on := 10, ground := Ground.data }, { on := 8, ground := Ground.data }, { on := 0, ground := Ground.phase }, { on := 1, ground := Ground.phase }, { on := 2, ground := Ground.phase }, { on := 3, ground := Ground.phase }, { on := 4, ground := Ground.phase }, { on := 5, ground := Ground.phase }, { on := 6, ground := Ground.phase }, { on := 7, ground := Ground.phase }, { on := 8, ground := Ground.phase }], guard := none }) rfl (fun K hK => ?_) AllReadyH.nil)
            go_simp
            refine hK.out _ _ hq (fun _ => ?_)
            clear hK K
            refine wpAnyH_done (by kernel_rfl) ?_ _
            generalize (wd.setCell ⟨g, 0, none⟩ (.int .u32 (cb : Nat))).drew = w3 at *
            clear k0 q1 f0 hq hT2 hon2
            go_wp2_with fail
            refine hsh.out.mono ?_
            rintro e w4 ⟨rfl, hE4, hon4⟩
            go_wp2_with fail
            go_roundw
            case rel => exact ⟨t + 1, by omega, by rw [HN.out], congrArg (Value.int .i64) (by omega), by rw [HN.out]; exact hE4, hon3.trans hon4 (by simp)⟩
            case measure => simp [intOf] <;> omega
          · have hhe : Rd.St.half ⟨pos, c, r, false⟩ = ⟨pos, c, rh, false⟩ := by rw [HHF.out, if_neg hcr]
            have hci : ¬ (rh : Int) ≤ (c : Int) := by omega
            rw [if_neg hcr, hhe] at HN
            rw [hhe] at hhf hhr
            clear hhe
            go_wp2_with fail
            refine hO.out.mono ?_
            rintro e w' ⟨rfl, rfl⟩
            go_upto_region 8 with (fail)
            rw [HW1.out]
            clear k0 k1 f1 HW1 hO
            refine wp_region_held_drew (S := fun w' => w'.cell? ⟨g, 0, none⟩ = some (.int .u32 (c : Nat)) ∧ w'.cell? ⟨g, 1, none⟩ = some (.int .u32 (rh : Nat))) (by kernel_rfl) ⟨q0, q1⟩ (fun hS => ?_)
            refine tk 0 (v := ?vc20) ?yc20 hS ?_
            case yc20 =>
              intro w hSw
              go_simp; all_goals (with_reducible rfl)
            simp only [Act.put, List.setIfInBounds_toArray, List.set_cons_zero, List.set_cons_succ]
            refine tk 1 (v := ?vc21) ?yc21 hS ?_
            case yc21 =>
              intro w hSw
              go_simp; all_goals (with_reducible rfl)
            simp only [Act.put, List.setIfInBounds_toArray, List.set_cons_zero, List.set_cons_succ]
            refine tk 2 (v := ?vc22) ?yc22 hS ?_
            case yc22 =>
              intro w hSw
              go_simp; all_goals (with_reducible rfl)
            simp only [Act.put, List.setIfInBounds_toArray, List.set_cons_zero, List.set_cons_succ]
            refine tk 3 (v := ?vc23) ?yc23 hS ?_
            case yc23 =>
              intro w hSw
              obtain ⟨j0, j1⟩ := hSw
              go_simp; all_goals (with_reducible rfl)
            simp only [Act.put, List.setIfInBounds_toArray, List.set_cons_zero, List.set_cons_succ]
            refine tk 4 (v := ?vc24) ?yc24 hS ?_
            case yc24 =>
              intro w hSw
              go_simp; all_goals (with_reducible rfl)
            simp only [Act.put, List.setIfInBounds_toArray, List.set_cons_zero, List.set_cons_succ]
            refine tk 5 (v := ?vc25) ?yc25 hS ?_
            case yc25 =>
              intro w hSw
              go_simp; all_goals (with_reducible rfl)
            simp only [Act.put, List.setIfInBounds_toArray, List.set_cons_zero, List.set_cons_succ]
            refine tk 6 (v := ?vc26) ?yc26 hS ?_
            case yc26 =>
              intro w hSw
              go_simp; all_goals (with_reducible rfl)
            simp only [Act.put, List.setIfInBounds_toArray, List.set_cons_zero, List.set_cons_succ]
            refine tk 7 (v := ?vc27) ?yc27 hS ?_
            case yc27 =>
              intro w hSw
              obtain ⟨j0, j1⟩ := hSw
              go_simp; all_goals (with_reducible rfl)
            simp only [Act.put, List.setIfInBounds_toArray, List.set_cons_zero, List.set_cons_succ]
            refine tk 8 (v := ?vc28) ?yc28 hS ?_
            case yc28 =>
              intro w hSw
              go_simp; all_goals (with_reducible rfl)
            simp only [Act.put, List.setIfInBounds_toArray, List.set_cons_zero, List.set_cons_succ]
            refine wpAnyH_done (by kernel_rfl) ?_ _
            have hT2 := hT1.below (drew_below w1)
            have hon2 := hon1.drew
            clear q0 q1 hT1 hon1
            generalize w1.drew = wd at *
            have hsh := Lib.hid (dshift_any 1 g o cap l ⟨pos, c, rh, false⟩ _ ⟨_, _, (fun _ => ⟨rfl, rfl⟩), hT2⟩ hhf hl (fun _ => by show 16777216 ≤ rh * 256 ^ 1; have : 8388608 ≤ rh := hhr; omega))
            go_wp2_with fail
            refine hsh.out.mono ?_
            rintro e w4 ⟨rfl, hE4, hon4⟩
            go_wp2_with fail
            go_roundw
            case rel => exact ⟨t + 1, by omega, by rw [HN.out]; exact congrArg (Value.int .u32) (by omega), congrArg (Value.int .i64) (by omega), by rw [HN.out]; exact hE4, hon2.trans hon4 (by simp)⟩
            case measure => simp [intOf] <;> omega
        · have hlt' : ¬ (t : Int) < m := by omega
          have HPL := Lib.hid (HPI.out (by omega))
          clear HPI HN
          go_wp2_with fail
          refine hO.out.mono ?_
          rintro e w' ⟨rfl, rfl⟩
          go_wp2_with fail
          go_ret
          exact ⟨by rw [HPL.out]; rfl, by rw [HPL.out]; exact hD, hon⟩
end Go.Proofs.Ytkckjjchfccdjaa

/- Contracts of the library, laid at this program. -/
namespace Go.Proofs.Ytkckjjchfccdjaa
open Go.Shelf
def shelf_lays128_ren : Go.Shelf.Ren := ⟨fun | 128 => 111 | n => n, fun | 51 => 31 | 3 => 3 | 4 => 4 | 46 => 90 | 5 => 5 | 9 => 9 | n => n, fun | n => n⟩
theorem shelf_lays128 : Go.Proofs.Lays.n128 Try.prog shelf_lays128_ren := {
  mixed := by kernel_rfl
  f128 := Try.func111.trans (congrArg some (by kernel_rfl))
  t3 := Try.underlying3
  a3 := Try.isAgg3
  z3 := Try.sizeOf3
  v3 := Try.zeroValue3
  t4 := Try.underlying4
  a4 := Try.isAgg4
  z4 := Try.sizeOf4
  v4 := Try.zeroValue4
  t5 := Try.underlying5
  a5 := Try.isAgg5
  z5 := Try.sizeOf5
  v5 := Try.zeroValue5
  t9 := Try.underlying9
  a9 := Try.isAgg9
  z9 := Try.sizeOf9
  v9 := Try.zeroValue9
  t46 := Try.underlying90
  a46 := Try.isAgg90
  z46 := Try.sizeOf90
  v46 := Try.zeroValue90
  t51 := Try.underlying31
  a51 := Try.isAgg31
  z51 := Try.sizeOf31
  v51 := Try.zeroValue31 }
theorem Shelf_bits_Len32 (x : Int) (w : World) (h0 : 0 ≤ x) (h1 : x ≤ 4294967295) :
    Calls Try.prog 111 #[.int .u32 x] w fun e w' => e = .returned (.int .i64 (Lib.bitLen x.toNat)) ∧ w' = w := Any.bits_Len32 shelf_lays128 x w h0 h1
end Go.Proofs.Ytkckjjchfccdjaa

/- The walk over the coder's Bytes. -/
namespace Go.Proofs.Ytkckjjchfccdjaa
set_option maxRecDepth 100000
open Go.RowKit

/-- Bytes of one's own come back. -/
def GivesB (w : World) (l : List UInt8) (e : Ending) (w' : World) : Prop := ∃ v, e = .returned v ∧ Own w.heap.size w' v l ∧ Below w.heap.size w w'

/-- The four bytes of the low word. -/
def low4 (lw : Nat) : List Value := [.int .u8 (IntKind.u8.wrap ((lw : Int) / 16777216)), .int .u8 (IntKind.u8.wrap ((lw : Int) / 65536)), .int .u8 (IntKind.u8.wrap ((lw : Int) / 256)), .int .u8 (IntKind.u8.wrap (lw : Int))]
theorem low4_one {lw : Nat} : ∀ u ∈ low4 lw, u.oneCell' = true := by
  intro u hu; simp [low4] at hu; rcases hu with rfl | rfl | rfl | rfl <;> rfl
theorem low4_bytes (v lw : Nat) (h : v % 4294967296 = lw) : low4 lw = (Rc.be 4 v).map B8 := by
  have e : Rc.be 4 v = [UInt8.ofNat (v / 256 / 256 / 256 % 256), UInt8.ofNat (v / 256 / 256 % 256), UInt8.ofNat (v / 256 % 256), UInt8.ofNat (v % 256)] := rfl
  rw [e]
  simp only [low4, List.map, B8, IntKind.wrap_u8', UInt8.toNat_ofNat']
  congr 2 <;> (try congr 2) <;> (try congr 2) <;> (try congr 2) <;> omega
theorem be_join (k v : Nat) : Rc.be (1 + k) (v / 4294967296) ++ Rc.be 4 v = Rc.be (5 + k) v := by
  rw [show 5 + k = (1 + k) + 4 by omega, Rc.be_add (1 + k) 4]

theorem own_read0 {w : World} {base g cap n : Nat} {l : List UInt8} (h : w.ownsRow base 5 1 (.slice (some ⟨g, 0, none⟩) n cap) n (l.map B8)) : n = l.length ∧ Bytes w (some ⟨g, 0, none⟩) l := by
  have hn : n = l.length := by have := h.1; simp at this; omega
  subst hn
  obtain ⟨A, c, e, _, _, h3⟩ := Own.read (base := base) (l := l) h
  injection e with e1 e2 e3
  subst e1
  exact ⟨rfl, h3⟩

set_option maxRecDepth 100000 in
set_option maxHeartbeats 4000000 in
theorem bytes_any (g o cap : Nat) (s : Rc.St) (w : World) (hE : EncAt w g o cap s) (hk : 1 + s.k + 4 ≤ 140737488355328) :
    Calls Try.prog 50 #[.pointer (some ⟨g, 0, none⟩)] w (GivesB w (Rc.be (5 + s.k) s.v)) := by
  obtain ⟨i, hi, hz0, hz1, hz2⟩ := info_parts info8
  have c0 := cell0_of hE.blk
  have c2 := cell2_of hE.blk
  have hgl : g < w.heap.size := block_lt_of_cell c0
  have hmk : i.bytes * (1 + s.k + 4) ≤ 281474976710656 := by rw [hz2]; omega
  have hml : 1 + s.k + 4 ≤ maxLen := by unfold maxLen; omega
  have hm1 : 1 ≤ 1 + s.k := by omega
  obtain ⟨hlen, hrB⟩ := own_read0 hE.own
  have hjoin := be_join s.k s.v
  have hl4 := low4_bytes s.v (s.v % 4294967296) rfl
  generalize hlb : Rc.be (1 + s.k) (s.v / 4294967296) = lb at *
  generalize Rc.be (5 + s.k) s.v = res at *
  generalize Rc.be 4 s.v = l4 at *
  generalize s.v % 4294967296 = lw at *
  generalize 1 + s.k = m at *
  have hsrc : Value.slice (some ⟨o, 0, none⟩) m cap = .slice (some ⟨o, 0, none⟩) lb.length cap := by rw [hlen]
  have HLEN := Lib.hid hlen
  have HJ := Lib.hid hjoin
  have HL4 := Lib.hid hl4
  have HSRC := Lib.hid hsrc
  clear hlen hjoin hl4 hlb hsrc hE
  have hfit : ([] : List UInt8).length + lb.length ≤ 140737488355328 := by rw [← HLEN.out]; simp; omega
  go_enter Try.func50, Try.ntmps50
  go_wp2_with (first
    | (refine wpList_make_own _ rfl _ _ 22 rfl w.heap.size 5 i (.int .u8 0) 1 Try.underlying22 hi hz0 hz1 _ _ _ (m + 4) rfl rfl rfl hmk hml (Nat.le_refl _) ?_; intro w1 hown1 hg1; have hb1 : Below w.heap.size w w1 := below_grown (Below.refl _ _) hg1 (Nat.le_refl _) (by simp); have c01 := (hb1.cell (p := ⟨g, 0, none⟩) hgl).trans c0; have c21 := (hb1.cell (p := ⟨g, 2, none⟩) hgl).trans c2)
    | (at_builtin; refine wpList_append_bytes rfl (.tmp 13) (.tmp 17) rfl w.heap.size _ _ [] rfl hown1 (some ⟨o, 0, none⟩) lb cap HSRC.out (hrB.below hb1) hfit hb1.size ?_; intro v2 w4 ho4 hg4; have hb4 : Below w.heap.size w w4 := below_grown hb1 hg4 hb1.size (fun g' hg' => (Own.from_base (l := []) hown1 g' hg').1)))
  rw [List.nil_append] at ho4
  generalize hn : lb.length = n at *
  unfold Own at ho4
  rw [hn] at ho4
  have hnm : m = n := HLEN.out
  obtain ⟨gb, capb, rfl, hgb, hgblt⟩ := World.ownsRow.form ho4 (by omega)
  have c04 := (hb4.cell (p := ⟨g, 0, none⟩) hgl).trans c0
  have hc4 : w4.drew.cell? ⟨g, 0, none⟩ = some (.int .u32 (lw : Int)) := c04
  have hgl4 : g < w4.heap.size := Nat.lt_of_lt_of_le hgl hb4.size
  have hS24 : ∀ o : Obj, (w4.alloc o).drew.cell? ⟨g, 0, none⟩ = some (.int .u32 (lw : Int)) := fun o => (World.cell?_alloc_lt w4 o ⟨g, 0, none⟩ hgl4).trans c04
  have hoa := World.ownsRow.alloc ho4 (.cells #[.int .u8 (IntKind.u8.wrap ((lw : Int) / 16777216)), .int .u8 (IntKind.u8.wrap ((lw : Int) / 65536)), .int .u8 (IntKind.u8.wrap ((lw : Int) / 256)), .int .u8 (IntKind.u8.wrap (lw : Int))] 5)
  have hnews := World.news_of_block (heap_alloc_new w4 (.cells #[.int .u8 (IntKind.u8.wrap ((lw : Int) / 16777216)), .int .u8 (IntKind.u8.wrap ((lw : Int) / 65536)), .int .u8 (IntKind.u8.wrap ((lw : Int) / 256)), .int .u8 (IntKind.u8.wrap (lw : Int))] 5))
  have h63 : n + 4 ≤ maxLen := by unfold maxLen; omega
  have hby : (n + 4) * 1 ≤ 140737488355328 := by omega
  have hbs : w.heap.size ≤ (w4.alloc (.cells #[.int .u8 (IntKind.u8.wrap ((lw : Int) / 16777216)), .int .u8 (IntKind.u8.wrap ((lw : Int) / 65536)), .int .u8 (IntKind.u8.wrap ((lw : Int) / 256)), .int .u8 (IntKind.u8.wrap (lw : Int))] 5)).drew.heap.size := by
    have := hb4.size
    show w.heap.size ≤ (w4.alloc _).heap.size
    simp; omega
  have hHH : (w4.alloc (.cells #[.int .u8 (IntKind.u8.wrap ((lw : Int) / 16777216)), .int .u8 (IntKind.u8.wrap ((lw : Int) / 65536)), .int .u8 (IntKind.u8.wrap ((lw : Int) / 256)), .int .u8 (IntKind.u8.wrap (lw : Int))] 5)).drew.heap.size = w4.heap.size + 1 := by show (w4.alloc _).heap.size = _; simp
  have HH := Lib.hid hHH
  have hK : ∀ w6 : World, (w4.alloc (.cells #[.int .u8 (IntKind.u8.wrap ((lw : Int) / 16777216)), .int .u8 (IntKind.u8.wrap ((lw : Int) / 65536)), .int .u8 (IntKind.u8.wrap ((lw : Int) / 256)), .int .u8 (IntKind.u8.wrap (lw : Int))] 5)).drew.grownBy w6 (Value.ownBlock (.slice (some ⟨gb, 0, none⟩) n capb)) → w6.cell? ⟨g, 0, none⟩ = some (.int .u32 (lw : Int)) := by
    intro w6 h
    refine (h.cell_far ⟨g, 0, none⟩ ?_ ?_).trans (hS24 _)
    · show g < (w4.alloc _).heap.size; simp; omega
    · simp [Value.ownBlock]; omega
  have HK := Lib.hid hK
  have HNM := Lib.hid hnm
  have HN := Lib.hid hn
  clear hHH hK hn hnm hown1 hg1 hg4 c01 c21 c0 c2
  refine wp_region_held_drew (S := fun w' => w'.cell? ⟨g, 0, none⟩ = some (.int .u32 (lw : Int))) (by kernel_rfl) hc4 (fun hS => ?_)
  refine tk 0 (v := ?vb0) ?yb0 hS ?_
  case yb0 => intro w hSw; go_simp; all_goals (with_reducible rfl)
  simp only [Act.put, List.setIfInBounds_toArray, List.set_cons_zero, List.set_cons_succ]
  refine tk 1 (v := ?vb1) ?yb1 hS ?_
  case yb1 => intro w hSw; go_simp; all_goals (with_reducible rfl)
  simp only [Act.put, List.setIfInBounds_toArray, List.set_cons_zero, List.set_cons_succ]
  refine tk 2 (v := ?vb2) ?yb2 hS ?_
  case yb2 => intro w hSw; go_simp; all_goals (with_reducible rfl)
  simp only [Act.put, List.setIfInBounds_toArray, List.set_cons_zero, List.set_cons_succ]
  refine tk 3 (v := ?vb3) ?yb3 hS ?_
  case yb3 => intro w hSw; go_simp; all_goals (with_reducible rfl)
  simp only [Act.put, List.setIfInBounds_toArray, List.set_cons_zero, List.set_cons_succ]
  refine tk 4 (v := ?vb4) ?yb4 hS ?_
  case yb4 => intro w hSw; go_simp; all_goals (with_reducible rfl)
  simp only [Act.put, List.setIfInBounds_toArray, List.set_cons_zero, List.set_cons_succ]
  refine tk 5 (v := ?vb5) ?yb5 hS ?_
  case yb5 => intro w hSw; go_simp; all_goals (with_reducible rfl)
  simp only [Act.put, List.setIfInBounds_toArray, List.set_cons_zero, List.set_cons_succ]
  refine tk 6 (v := ?vb6) ?yb6 hS ?_
  case yb6 => intro w hSw; go_simp; all_goals (with_reducible rfl)
  simp only [Act.put, List.setIfInBounds_toArray, List.set_cons_zero, List.set_cons_succ]
  refine tk 7 (v := ?vb7) ?yb7 hS ?_
  case yb7 => intro w hSw; go_simp; all_goals (with_reducible rfl)
  simp only [Act.put, List.setIfInBounds_toArray, List.set_cons_zero, List.set_cons_succ]
  refine tk 8 (v := ?vb8) ?yb8 hS ?_
  case yb8 => intro w hSw; go_simp; all_goals (with_reducible rfl)
  simp only [Act.put, List.setIfInBounds_toArray, List.set_cons_zero, List.set_cons_succ]
  refine tk 9 (v := ?vb9) ?yb9 hS ?_
  case yb9 => intro w hSw; go_simp; all_goals (with_reducible rfl)
  simp only [Act.put, List.setIfInBounds_toArray, List.set_cons_zero, List.set_cons_succ]
  refine tk 10 (v := ?vb10) ?yb10 hS ?_
  case yb10 => intro w hSw; go_simp; all_goals (with_reducible rfl)
  simp only [Act.put, List.setIfInBounds_toArray, List.set_cons_zero, List.set_cons_succ]
  refine tk 11 (v := ?vb11) ?yb11 hS ?_
  case yb11 => intro w hSw; go_simp; all_goals (with_reducible rfl)
  simp only [Act.put, List.setIfInBounds_toArray, List.set_cons_zero, List.set_cons_succ]
  refine tk 12 (v := ?vb12) ?yb12 hS ?_
  case yb12 => intro w hSw; go_simp; all_goals (with_reducible rfl)
  simp only [Act.put, List.setIfInBounds_toArray, List.set_cons_zero, List.set_cons_succ]
  refine tk 13 (v := ?vb13) ?yb13 hS ?_
  case yb13 => intro w hSw; go_simp; all_goals (with_reducible rfl)
  simp only [Act.put, List.setIfInBounds_toArray, List.set_cons_zero, List.set_cons_succ]
  refine tk 14 (v := ?vb14) ?yb14 hS ?_
  case yb14 => intro w hSw; go_simp; all_goals (with_reducible rfl)
  simp only [Act.put, List.setIfInBounds_toArray, List.set_cons_zero, List.set_cons_succ]
  refine tk 15 (v := ?vb15) ?yb15 hS ?_
  case yb15 => intro w hSw; go_simp; all_goals (with_reducible rfl)
  simp only [Act.put, List.setIfInBounds_toArray, List.set_cons_zero, List.set_cons_succ]
  refine tk 16 (v := ?vb16) ?yb16 hS ?_
  case yb16 => intro w hSw; go_simp; all_goals (with_reducible rfl)
  simp only [Act.put, List.setIfInBounds_toArray, List.set_cons_zero, List.set_cons_succ]
  refine tk 17 (v := ?vb17) ?yb17 hS ?_
  case yb17 => intro w hSw; go_simp; all_goals (with_reducible rfl)
  simp only [Act.put, List.setIfInBounds_toArray, List.set_cons_zero, List.set_cons_succ]
  refine tk 18 (v := ?vb18) ?yb18 hS ?_
  case yb18 => intro w hSw; go_simp; all_goals (with_reducible rfl)
  simp only [Act.put, List.setIfInBounds_toArray, List.set_cons_zero, List.set_cons_succ]
  refine tk 19 (v := ?vb19) ?yb19 hS ?_
  case yb19 => intro w hSw; go_simp; all_goals (with_reducible rfl)
  simp only [Act.put, List.setIfInBounds_toArray, List.set_cons_zero, List.set_cons_succ]
  refine tk 20 (v := ?vb20) ?yb20 hS ?_
  case yb20 => intro w hSw; go_simp; all_goals (with_reducible rfl)
  simp only [Act.put, List.setIfInBounds_toArray, List.set_cons_zero, List.set_cons_succ]
  refine tk 21 (v := ?vb21) ?yb21 hS ?_
  case yb21 => intro w hSw; go_simp; all_goals (with_reducible rfl)
  simp only [Act.put, List.setIfInBounds_toArray, List.set_cons_zero, List.set_cons_succ]
  refine tk 22 (v := ?vb22) ?yb22 hS ?_
  case yb22 => intro w hSw; go_simp; all_goals (with_reducible rfl)
  simp only [Act.put, List.setIfInBounds_toArray, List.set_cons_zero, List.set_cons_succ]
  refine tk 23 (v := ?vb23) ?yb23 hS ?_
  case yb23 => intro w hSw; go_simp; all_goals (with_reducible rfl)
  simp only [Act.put, List.setIfInBounds_toArray, List.set_cons_zero, List.set_cons_succ]
  refine wpAnyH_ready (rs := [24]) (by kernel_rfl) (by simp) ?_
  refine AllReadyH.cons (o := { dst := some 43, op := Op.buildSlice 22 4 #[(0, Operand.tmp 25), (1, Operand.tmp 31), (2, Operand.tmp 37), (3, Operand.tmp 42)], type := 22, pos := "rcenc.go:68", after := #[{ on := 6, ground := Ground.data }, { on := 12, ground := Ground.data }, { on := 18, ground := Ground.data }, { on := 23, ground := Ground.data }], guard := none }) rfl (fun K hK => ?_) AllReadyH.nil
  go_simp
  skip
  refine hK.out _ _ (hS24 _) (fun hSb24 => ?_)
  clear hK K
  refine wpAnyH_ready (rs := [25]) (by kernel_rfl) (by simp) ?_
  refine AllReadyH.cons (o := { dst := some 44, op := Op.call { callee := Callee.builtin Builtin.append, args := #[Operand.tmp 19, Operand.tmp 43], argTypes := #[22, 22] }, type := 22, pos := "rcenc.go:68", after := #[{ on := 0, ground := Ground.data }, { on := 24, ground := Ground.data }], guard := none }) rfl (fun K hK => ?_) AllReadyH.nil
  refine step_append_lies (P := Try.prog) _ rfl (.tmp 19) (.tmp 43) 22 rfl w.heap.size 5 i (.int .u8 0) 1 1 Try.underlying22 hi hz0 hz1 hz2 rfl (by decide) (.slice (some ⟨gb, 0, none⟩) n capb) n _ rfl hoa.drew ⟨w4.heap.size, 0, none⟩ 4 4 (low4 lw) rfl rfl hnews low4_one (by decide) h63 hby hbs (w4.heap.size + 1) HH.out ?_
  intro g2 cap2 w6 hown6 hg6 _ _
  have hS25 := HK.out w6 hg6
  refine hK.out _ _ hS25 (fun hSb25 => ?_)
  clear hK K
  refine tk 26 (v := ?vb26) ?yb26 hSb25 ?_
  case yb26 => intro w hSw; go_simp; all_goals (with_reducible rfl)
  simp only [Act.put, List.setIfInBounds_toArray, List.set_cons_zero, List.set_cons_succ]
  refine wpAnyH_done (by kernel_rfl) ?_ _
  go_wp2_with fail
  go_ret
  refine ⟨_, rfl, ?_, ?_⟩
  · unfold Own
    have hlr : res.length = n + 4 := by
      have h4 := congrArg List.length HL4.out
      rw [← HJ.out, List.length_append, HN.out]; simp [low4] at h4; omega
    rw [hlr, ← HJ.out, List.map_append, ← HL4.out]; exact hown6
  · exact below_grown ((hb4.alloc hb4.size _).drew) hg6 hbs (fun g' hg' => by
      have : gb = g' := by simpa [Value.ownBlock] using hg'
      omega)
end Go.Proofs.Ytkckjjchfccdjaa
