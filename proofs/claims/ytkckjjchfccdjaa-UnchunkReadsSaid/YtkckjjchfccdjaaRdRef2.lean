/- The walks over the reference's Bit, Plain and Done. -/
import Derived.Test.YtkckjjchfccdjaaMg1
import Derived.Test.YtkckjjchfccdjaaMg7
namespace Go.Proofs.Ytkckjjchfccdjaa
set_option maxRecDepth 100000
open Go.RowKit

def RDBit (w : World) (h b off cc : Nat) (l : List UInt8) (bit : Bool) (p : Nat) (s : Rd.St) (e : Ending) (w' : World) : Prop :=
  e = .returned (.tuple #[.int .i64 (bitI bit), .int .u16 (p : Nat)]) ∧ RMoved w h b off cc l s w'
def RDPlain (w : World) (h b off cc : Nat) (l : List UInt8) (v : Nat) (s : Rd.St) (e : Ending) (w' : World) : Prop := e = .returned (.int .u32 (v : Nat)) ∧ RMoved w h b off cc l s w'

set_option maxRecDepth 100000 in
set_option maxHeartbeats 1000000 in
theorem rdbit_any (h b off cc : Nat) (l : List UInt8) (s : Rd.St) (ch : BitVec 16) (w : World) (hE : RDecIs w h b off cc l s) (hs : s.ok l) (hl : l.length ≤ 140737488355328) :
    Calls Try.prog 73 #[.pointer (some ⟨h, 0, none⟩), .int .u16 ch.toNat] w
      (RDBit w h b off cc l (s.bit l (Rc.fair ch.toNat)).1 (Rc.next (Rc.fair ch.toNat) (s.bit l (Rc.fair ch.toNat)).1) (s.bit l (Rc.fair ch.toNat)).2) := by
  obtain ⟨hp1, hp2⟩ := Rc.fair_bounds ch.toNat
  have hv := Lib.hid (fun w => fair_any ch w)
  generalize Rc.fair ch.toNat = p at *
  obtain ⟨x, y, hxy, hT0⟩ := hE
  obtain ⟨pos, c, r, out⟩ := s
  cases out with
  | true =>
    have hb : (Rd.St.bit l ⟨pos, c, r, true⟩ p) = (false, ⟨pos, c, r, true⟩) := rfl
    rw [hb]
    have hT : RDecAt w h b off cc l x y pos true := hT0
    have hmv := Lib.hid (fun w => rnext_any p false w hp1 hp2)
    have k4 := c54 hT.blk
    clear hT0 hxy hb hs
    generalize Rc.next p false = nx at *
    go_enter Try.func73, Try.ntmps73
    go_wp2_with fail
    refine (hv.out _).mono ?_
    rintro e w' ⟨rfl, rfl⟩
    go_wp2_with fail
    refine (hmv.out _).mono ?_
    rintro e w' ⟨rfl, rfl⟩
    go_wp2_with fail
    go_ret2
    exact ⟨rfl, ⟨x, y, (fun h => by cases h), hT⟩, Only.refl _ _⟩
  | false =>
    obtain rfl : c = x := (hxy rfl).1.symm
    obtain rfl : r = y := (hxy rfl).2.symm
    have hT : RDecAt w h b off cc l c r pos false := hT0
    have hb : (Rd.St.bit l ⟨pos, c, r, false⟩ p) = (Rd.St.one ⟨pos, c, r, false⟩ p, Rd.scale l 2 (Rd.St.pick ⟨pos, c, r, false⟩ p)) := rfl
    obtain ⟨hpf, hpr⟩ := Rd.St.pick_fits hs rfl hp1 hp2
    have hr32 : r < 4294967296 := hs.1.2.2
    have hc32 : c < 4294967296 := hs.1.2.1
    rw [hb]
    clear hb hT0 hxy hs
    have hbd := bound_u64 r p hr32 hp2
    have hble : r / 2048 * p ≤ r / 2048 * 2047 := Nat.mul_le_mul_left _ hp2
    have k2 := c52 hT.blk
    have k3 := c53 hT.blk
    have k4 := c54 hT.blk
    have f2 := frozen_of_row w h 2 _ _ hT.blk
    have f3 := frozen_of_row w h 3 _ _ hT.blk
    by_cases hlt : r / 2048 * p ≤ c
    · have hone : Rd.St.one ⟨pos, c, r, false⟩ p = true := decide_eq_true hlt
      have hpk : Rd.St.pick ⟨pos, c, r, false⟩ p = ⟨pos, c - r / 2048 * p, r - r / 2048 * p, false⟩ := if_pos hlt
      have hmv := Lib.hid (fun w => rnext_any p true w hp1 hp2)
      rw [hone]
      rw [hpk] at hpf hpr ⊢
      have hbr : r / 2048 * p ≤ r := by omega
      clear hone hpk
      generalize r / 2048 * p = bnd at *
      have hn : (bnd : Int) ≤ (c : Int) := by omega
      have e1 : (c : Int) - (bnd : Int) = ((c - bnd : Nat) : Int) := by omega
      have e2 : (r : Int) - (bnd : Int) = ((r - bnd : Nat) : Int) := by omega
      have hT1 : RDecAt ((w.setCell ⟨h, 2, none⟩ (.int .u64 ((c - bnd : Nat) : Int))).setCell ⟨h, 3, none⟩ (.int .u64 ((r - bnd : Nat) : Int))) h b off cc l (c - bnd) (r - bnd) pos false :=
        ⟨s53 (s52 hT.blk _) _, bytes_set' (bytes_set' hT.own hT.ne _) hT.ne _, hT.ne, by simpa using hT.lt⟩
      have hsh := Lib.hid (rdscale_any 2 h b off cc l ⟨pos, c - bnd, r - bnd, false⟩ _ hT1 rfl hpf hl (by show 16777216 ≤ (r - bnd) * 256 ^ 2; have : 8192 ≤ r - bnd := hpr; omega))
      have k3' := c53 (s52 hT.blk (.int .u64 ((c - bnd : Nat) : Int)))
      have f3' := frozen_of_row (w.setCell ⟨h, 2, none⟩ (.int .u64 ((c - bnd : Nat) : Int))) h 3 _ _ (s52 hT.blk (.int .u64 ((c - bnd : Nat) : Int)))
      generalize c - bnd = cb at *
      generalize r - bnd = rb at *
      generalize Rc.next p true = nx at *
      go_enter Try.func73, Try.ntmps73
      go_wp2_with fail
      refine (hv.out _).mono ?_
      rintro e w' ⟨rfl, rfl⟩
      go_wp2_with fail
      refine hsh.out.mono ?_
      rintro e w1 ⟨rfl, hE2, hon⟩
      go_wp2_with fail
      refine (hmv.out _).mono ?_
      rintro e w' ⟨rfl, rfl⟩
      go_wp2_with fail
      go_ret2
      exact ⟨rfl, hE2, ((((Only.refl _ _).setCell (p := ⟨h, 2, none⟩) (.inl (by simp)) _).setCell (p := ⟨h, 3, none⟩) (.inl (by simp)) _).trans hon (by simp))⟩
    · have hone : Rd.St.one ⟨pos, c, r, false⟩ p = false := decide_eq_false hlt
      have hpk : Rd.St.pick ⟨pos, c, r, false⟩ p = ⟨pos, c, r / 2048 * p, false⟩ := if_neg hlt
      have hmv := Lib.hid (fun w => rnext_any p false w hp1 hp2)
      rw [hone]
      rw [hpk] at hpf hpr ⊢
      clear hone hpk
      generalize r / 2048 * p = bnd at *
      have hn : ¬ (bnd : Int) ≤ (c : Int) := by omega
      have hT1 : RDecAt (w.setCell ⟨h, 3, none⟩ (.int .u64 (bnd : Nat))) h b off cc l c bnd pos false :=
        ⟨s53 hT.blk _, bytes_set' hT.own hT.ne _, hT.ne, by simpa using hT.lt⟩
      have hsh := Lib.hid (rdscale_any 2 h b off cc l ⟨pos, c, bnd, false⟩ _ hT1 rfl hpf hl (by show 16777216 ≤ bnd * 256 ^ 2; have : 8192 ≤ bnd := hpr; omega))
      generalize Rc.next p false = nx at *
      go_enter Try.func73, Try.ntmps73
      go_wp2_with fail
      refine (hv.out _).mono ?_
      rintro e w' ⟨rfl, rfl⟩
      go_wp2_with fail
      refine hsh.out.mono ?_
      rintro e w1 ⟨rfl, hE2, hon⟩
      go_wp2_with fail
      refine (hmv.out _).mono ?_
      rintro e w' ⟨rfl, rfl⟩
      go_wp2_with fail
      go_ret2
      exact ⟨rfl, hE2, ((Only.refl _ _).setCell (p := ⟨h, 3, none⟩) (.inl (by simp)) _).trans hon (by simp)⟩

set_option maxRecDepth 100000 in
set_option maxHeartbeats 1000000 in
theorem rdplain_any (h b off cc : Nat) (l : List UInt8) (s : Rd.St) (m : Nat) (w : World) (hE : RDecIs w h b off cc l s) (hs : s.ok l) (hl : l.length ≤ 140737488355328) (hm : m ≤ 32) :
    Calls Try.prog 80 #[.pointer (some ⟨h, 0, none⟩), .int .i64 (m : Nat)] w (RDPlain w h b off cc l (s.plain l m).1 (s.plain l m).2) := by
  go_enter Try.func80, Try.ntmps80
  go_wp2_with fail
  go_loopw [5, 6] (fun vv i wr => ∃ t : Nat, t ≤ m ∧ vv = .int .u32 ((s.rounds l t).1 : Nat) ∧ i = .int .i64 (t : Nat) ∧ RDecIs wr h b off cc l (s.rounds l t).2 ∧ Only [h] w wr) (fun _ i _ => m - (intOf i).toNat)
  case atStart => exact ⟨0, by omega, rfl, rfl, hE, Only.refl _ _⟩
  case round =>
      obtain ⟨t, ht, rfl, rfl, hD, hon⟩ := hrel
      obtain ⟨hqok, hvlt⟩ := Rd.St.rounds_ok hs t
      clear hE
      by_cases hout : (s.rounds l t).2.out = true
      · have hpl := Rd.St.plain_of_out ht hout
        have HPL := Lib.hid hpl
        generalize (s.rounds l t).2 = q at *
        generalize (s.rounds l t).1 = v at *
        have hD2 := hD
        obtain ⟨x, y, _, hT⟩ := hD2
        have k4 := c54 hT.blk
        rw [hout] at k4
        have HOUT := Lib.hid hout
        clear hpl hout hT
        by_cases hlt : t < m
        · have hlt' : (t : Int) < m := by omega
          go_wp2_with fail
          go_ret
          exact ⟨by rw [HPL.out]; rfl, by rw [HPL.out]; exact hD, hon⟩
        · have hlt' : ¬ (t : Int) < m := by omega
          go_wp2_with fail
          go_ret
          exact ⟨by rw [HPL.out]; rfl, by rw [HPL.out]; exact hD, hon⟩
      · have hout' : (s.rounds l t).2.out = false := by simpa using hout
        have hnext : s.rounds l (t + 1) = (2 * (s.rounds l t).1 + (if (s.rounds l t).2.r / 2 ≤ (s.rounds l t).2.c then 1 else 0), Rd.scale l 1 (s.rounds l t).2.half) := by
          rw [Rd.St.rounds, if_neg hout]
        have HN := Lib.hid hnext
        have HPI := Lib.hid (fun h : t = m => (h ▸ Rd.St.plain_of_in hout' : s.plain l m = s.rounds l t))
        clear hnext hout
        generalize hQ : s.rounds l t = Q at *
        obtain ⟨v, q⟩ := Q
        simp only at HN hqok hvlt hD hout' HPI
        clear hQ
        have hout := hout'
        clear hout'
        by_cases hlt : t < m
        · have hlt' : (t : Int) < m := by omega
          clear HPI
          obtain ⟨x, y, hxy, hT0⟩ := hD
          obtain ⟨pos, c, r, out⟩ := q
          simp only at hout
          subst hout
          obtain rfl : c = x := (hxy rfl).1.symm
          obtain rfl : r = y := (hxy rfl).2.symm
          obtain ⟨hhf, hhr⟩ := Rd.St.half_fits hqok rfl
          have hr32 : r < 4294967296 := hqok.1.2.2
          have hc32 : c < 4294967296 := hqok.1.2.1
          have hT : RDecAt wr h b off cc l c r pos false := hT0
          have hhalf : Rd.St.half ⟨pos, c, r, false⟩ = if r / 2 ≤ c then ⟨pos, c - r / 2, r / 2, false⟩ else ⟨pos, c, r / 2, false⟩ := rfl
          simp only at HN
          have hr2 : (r : Int) / 2 = ((r / 2 : Nat) : Int) := by omega
          have hrl : r / 2 < 4294967296 := by omega
          have k3 := c53 hT.blk
          have k4 := c54 hT.blk
          have f3 := frozen_of_row wr h 3 _ _ hT.blk
          generalize hrh : r / 2 = rh at *
          have hT1 : RDecAt (wr.setCell ⟨h, 3, none⟩ (.int .u64 (rh : Nat))) h b off cc l c rh pos false := ⟨s53 hT.blk _, bytes_set' hT.own hT.ne _, hT.ne, by simpa using hT.lt⟩
          have hon1 : Only [h] w (wr.setCell ⟨h, 3, none⟩ (.int .u64 (rh : Nat))) := hon.setCell (.inl (by simp)) _
          generalize hw1 : wr.setCell ⟨h, 3, none⟩ (.int .u64 (rh : Nat)) = w1 at *
          have HW1 := Lib.hid hw1
          have HHF := Lib.hid hhalf
          clear hw1 hxy hT0 hrh hqok hhalf
          have q2 : w1.drew.cell? ⟨h, 2, none⟩ = some (.int .u64 (c : Nat)) := c52 hT1.blk
          have q3 : w1.drew.cell? ⟨h, 3, none⟩ = some (.int .u64 (rh : Nat)) := c53 hT1.blk
          have hv2 : 2 * v < 4294967295 := by
            have : 2 ^ (t + 1) ≤ 2 ^ 32 := Nat.pow_le_pow_right (by omega) (by omega)
            rw [Nat.pow_succ] at this; omega
          have hvi : (v : Int) * 2 < 4294967295 := by omega
          by_cases hcr : rh ≤ c
          · have hhe : Rd.St.half ⟨pos, c, r, false⟩ = ⟨pos, c - rh, rh, false⟩ := by rw [HHF.out, if_pos hcr]
            have hci : (rh : Int) ≤ (c : Int) := by omega
            rw [if_pos hcr, hhe] at HN
            rw [hhe] at hhf hhr
            have hsub : IntKind.u64.wrap ((c : Int) - (rh : Int)) = ((c - rh : Nat) : Int) := by rw [IntKind.wrap_u64]; omega
            generalize c - rh = cb at *
            clear hhe
            go_upto_region 7 with (fail)
            rw [HW1.out]
            clear k3 k4 f3 HW1
            refine wp_region_held_drew (S := fun w' => w'.cell? ⟨h, 2, none⟩ = some (.int .u64 (c : Nat)) ∧ w'.cell? ⟨h, 3, none⟩ = some (.int .u64 (rh : Nat))) (by kernel_rfl) ⟨q2, q3⟩ (fun hS => ?_)
            refine tk 0 (v := ?va1) ?ya1 hS ?_
            case ya1 =>
              intro w hSw
              go_simp; all_goals (with_reducible rfl)
            simp only [Act.put, List.setIfInBounds_toArray, List.set_cons_zero, List.set_cons_succ]
            refine tk 1 (v := ?va2) ?ya2 hS ?_
            case ya2 =>
              intro w hSw
              go_simp; all_goals (with_reducible rfl)
            simp only [Act.put, List.setIfInBounds_toArray, List.set_cons_zero, List.set_cons_succ]
            refine tk 2 (v := ?va3) ?ya3 hS ?_
            case ya3 =>
              intro w hSw
              go_simp; all_goals (with_reducible rfl)
            simp only [Act.put, List.setIfInBounds_toArray, List.set_cons_zero, List.set_cons_succ]
            refine tk 3 (v := ?va4) ?ya4 hS ?_
            case ya4 =>
              intro w hSw
              obtain ⟨j2, j3⟩ := hSw
              go_simp; all_goals (with_reducible rfl)
            simp only [Act.put, List.setIfInBounds_toArray, List.set_cons_zero, List.set_cons_succ]
            refine tk 4 (v := ?va5) ?ya5 hS ?_
            case ya5 =>
              intro w hSw
              go_simp; all_goals (with_reducible rfl)
            simp only [Act.put, List.setIfInBounds_toArray, List.set_cons_zero, List.set_cons_succ]
            refine tk 5 (v := ?va6) ?ya6 hS ?_
            case ya6 =>
              intro w hSw
              go_simp; all_goals (with_reducible rfl)
            simp only [Act.put, List.setIfInBounds_toArray, List.set_cons_zero, List.set_cons_succ]
            refine tk 6 (v := ?va7) ?ya7 hS ?_
            case ya7 =>
              intro w hSw
              go_simp; all_goals (with_reducible rfl)
            simp only [Act.put, List.setIfInBounds_toArray, List.set_cons_zero, List.set_cons_succ]
            refine tk 7 (v := ?va8) ?ya8 hS ?_
            case ya8 =>
              intro w hSw
              obtain ⟨j2, j3⟩ := hSw
              go_simp; all_goals (with_reducible rfl)
            simp only [Act.put, List.setIfInBounds_toArray, List.set_cons_zero, List.set_cons_succ]
            refine tk 8 (v := ?va9) ?ya9 hS ?_
            case ya9 =>
              intro w hSw
              go_simp; all_goals (with_reducible rfl)
            simp only [Act.put, List.setIfInBounds_toArray, List.set_cons_zero, List.set_cons_succ]
            refine wpAnyH_done (by kernel_rfl) ?_ _
            have hT2 := hT1.below (drew_below w1)
            have hon2 := hon1.drew
            clear q2 q3 hT1 hon1
            generalize w1.drew = wd at *
            go_upto_region 8 with (fail)
            have k2 : wd.drew.cell? ⟨h, 2, none⟩ = some (.int .u64 (c : Nat)) := c52 hT2.blk
            have q3 : wd.drew.cell? ⟨h, 3, none⟩ = some (.int .u64 (rh : Nat)) := c53 hT2.blk
            have f2 : wd.drew.frozen? ⟨h, 2, none⟩ = false := frozen_of_row wd.drew h 2 _ _ hT2.blk
            have hT3a : RDecAt (wd.setCell ⟨h, 2, none⟩ (.int .u64 (cb : Nat))) h b off cc l cb rh pos false := ⟨s52 hT2.blk _, bytes_set' hT2.own hT2.ne _, hT2.ne, by simpa using hT2.lt⟩
            have hT3 := hT3a.below (drew_below _)
            have hon3 : Only [h] w (wd.setCell ⟨h, 2, none⟩ (.int .u64 (cb : Nat))).drew := (hon2.setCell (.inl (by simp)) _).drew
            have hq : (wd.setCell ⟨h, 2, none⟩ (.int .u64 (cb : Nat))).drew.cell? ⟨h, 3, none⟩ = some (.int .u64 (rh : Nat)) := c53 hT3.blk
            have hsh := Lib.hid (rdscale_any 1 h b off cc l ⟨pos, cb, rh, false⟩ _ hT3 rfl hhf hl (by show 16777216 ≤ rh * 256 ^ 1; have : 8388608 ≤ rh := hhr; omega))
            clear hT3a
            refine wp_region_held_drew (S := fun w' => w'.cell? ⟨h, 3, none⟩ = some (.int .u64 (rh : Nat))) (by kernel_rfl) q3 (fun hS => ?_)
            refine tk 0 (v := ?vb10) ?yb10 hS ?_
            case yb10 =>
              intro w hSw
              go_simp; all_goals (with_reducible rfl)
            simp only [Act.put, List.setIfInBounds_toArray, List.set_cons_zero, List.set_cons_succ]
            refine tk 1 (v := ?vb11) ?yb11 hS ?_
            case yb11 =>
              intro w hSw
              go_simp; all_goals (with_reducible rfl)
            simp only [Act.put, List.setIfInBounds_toArray, List.set_cons_zero, List.set_cons_succ]
            refine tk 2 (v := ?vb12) ?yb12 hS ?_
            case yb12 =>
              intro w hSw
              go_simp; all_goals (with_reducible rfl)
            simp only [Act.put, List.setIfInBounds_toArray, List.set_cons_zero, List.set_cons_succ]
            refine tk 3 (v := ?vb13) ?yb13 hS ?_
            case yb13 =>
              intro w hSw
              go_simp; all_goals (with_reducible rfl)
            simp only [Act.put, List.setIfInBounds_toArray, List.set_cons_zero, List.set_cons_succ]
            refine tk 5 (v := ?vb14) ?yb14 hS ?_
            case yb14 =>
              intro w hSw
              go_simp; all_goals (with_reducible rfl)
            simp only [Act.put, List.setIfInBounds_toArray, List.set_cons_zero, List.set_cons_succ]
            refine tk 6 (v := ?vb15) ?yb15 hS ?_
            case yb15 =>
              intro w hSw
              go_simp; all_goals (with_reducible rfl)
            simp only [Act.put, List.setIfInBounds_toArray, List.set_cons_zero, List.set_cons_succ]
            refine tk 7 (v := ?vb16) ?yb16 hS ?_
            case yb16 =>
              intro w hSw
              go_simp; all_goals (with_reducible rfl)
            simp only [Act.put, List.setIfInBounds_toArray, List.set_cons_zero, List.set_cons_succ]
            refine tk 8 (v := ?vb17) ?yb17 hS ?_
            case yb17 =>
              intro w hSw
              have j3 := hSw
              go_simp; all_goals (with_reducible rfl)
            simp only [Act.put, List.setIfInBounds_toArray, List.set_cons_zero, List.set_cons_succ]
            refine wpAnyH_ready (rs := [4]) (by kernel_rfl) (by simp) ?_
            refine (AllReadyH.cons (o := { dst := some 42, op := Op.load 95 (Operand.tmp 41), type := 95, pos := "ref.go:69", after := #[{ on := 3, ground := Ground.data }], guard := none }) rfl (fun K hK => ?_) AllReadyH.nil)
            go_simp
            refine hK.out _ _ hS (fun _ => ?_)
            clear hK K
            refine tk 9 (v := ?vb18) ?yb18 hS ?_
            case yb18 =>
              intro w hSw
              go_simp; all_goals (with_reducible rfl)
            simp only [Act.put, List.setIfInBounds_toArray, List.set_cons_zero, List.set_cons_succ]
            refine tk 10 (v := ?vb19) ?yb19 hS ?_
            case yb19 =>
              intro w hSw
              go_simp; all_goals (with_reducible rfl)
            simp only [Act.put, List.setIfInBounds_toArray, List.set_cons_zero, List.set_cons_succ]
            refine tk 11 (v := ?vb20) ?yb20 hS ?_
            case yb20 =>
              intro w hSw
              go_simp; all_goals (with_reducible rfl)
            simp only [Act.put, List.setIfInBounds_toArray, List.set_cons_zero, List.set_cons_succ]
            refine wpAnyH_ready (rs := [12]) (by kernel_rfl) (by simp) ?_
            refine (AllReadyH.cons (o := { dst := none, op := Op.store 95 (Operand.tmp 49) (Operand.tmp 47), type := 0, pos := "ref.go:69", after := #[{ on := 11, ground := Ground.data }, { on := 9, ground := Ground.data }, { on := 0, ground := Ground.phase }, { on := 1, ground := Ground.phase }, { on := 2, ground := Ground.phase }, { on := 3, ground := Ground.phase }, { on := 4, ground := Ground.phase }, { on := 5, ground := Ground.phase }, { on := 6, ground := Ground.phase }, { on := 7, ground := Ground.phase }, { on := 8, ground := Ground.phase }, { on := 9, ground := Ground.phase }], guard := none }) rfl (fun K hK => ?_) AllReadyH.nil)
            go_simp
            refine hK.out _ _ hq (fun _ => ?_)
            clear hK K
            refine wpAnyH_done (by kernel_rfl) ?_ _
            generalize (wd.setCell ⟨h, 2, none⟩ (.int .u64 (cb : Nat))).drew = w3 at *
            clear k2 q3 f2 hq hT2 hon2
            go_wp2_with fail
            refine hsh.out.mono ?_
            rintro e w4 ⟨rfl, hE4, hon4⟩
            go_wp2_with fail
            go_roundw
            case rel => exact ⟨t + 1, by omega, by rw [HN.out]; exact congrArg (Value.int .u32) (by omega), congrArg (Value.int .i64) (by omega), by rw [HN.out]; exact hE4, hon3.trans hon4 (by simp)⟩
            case measure => simp [intOf] <;> omega
          · have hhe : Rd.St.half ⟨pos, c, r, false⟩ = ⟨pos, c, rh, false⟩ := by rw [HHF.out, if_neg hcr]
            have hci : ¬ (rh : Int) ≤ (c : Int) := by omega
            rw [if_neg hcr, hhe] at HN
            rw [hhe] at hhf hhr
            clear hhe
            go_upto_region 7 with (fail)
            rw [HW1.out]
            clear k3 k4 f3 HW1
            refine wp_region_held_drew (S := fun w' => w'.cell? ⟨h, 2, none⟩ = some (.int .u64 (c : Nat)) ∧ w'.cell? ⟨h, 3, none⟩ = some (.int .u64 (rh : Nat))) (by kernel_rfl) ⟨q2, q3⟩ (fun hS => ?_)
            refine tk 0 (v := ?vc21) ?yc21 hS ?_
            case yc21 =>
              intro w hSw
              go_simp; all_goals (with_reducible rfl)
            simp only [Act.put, List.setIfInBounds_toArray, List.set_cons_zero, List.set_cons_succ]
            refine tk 1 (v := ?vc22) ?yc22 hS ?_
            case yc22 =>
              intro w hSw
              go_simp; all_goals (with_reducible rfl)
            simp only [Act.put, List.setIfInBounds_toArray, List.set_cons_zero, List.set_cons_succ]
            refine tk 2 (v := ?vc23) ?yc23 hS ?_
            case yc23 =>
              intro w hSw
              go_simp; all_goals (with_reducible rfl)
            simp only [Act.put, List.setIfInBounds_toArray, List.set_cons_zero, List.set_cons_succ]
            refine tk 3 (v := ?vc24) ?yc24 hS ?_
            case yc24 =>
              intro w hSw
              obtain ⟨j2, j3⟩ := hSw
              go_simp; all_goals (with_reducible rfl)
            simp only [Act.put, List.setIfInBounds_toArray, List.set_cons_zero, List.set_cons_succ]
            refine tk 4 (v := ?vc25) ?yc25 hS ?_
            case yc25 =>
              intro w hSw
              go_simp; all_goals (with_reducible rfl)
            simp only [Act.put, List.setIfInBounds_toArray, List.set_cons_zero, List.set_cons_succ]
            refine tk 5 (v := ?vc26) ?yc26 hS ?_
            case yc26 =>
              intro w hSw
              go_simp; all_goals (with_reducible rfl)
            simp only [Act.put, List.setIfInBounds_toArray, List.set_cons_zero, List.set_cons_succ]
            refine tk 6 (v := ?vc27) ?yc27 hS ?_
            case yc27 =>
              intro w hSw
              go_simp; all_goals (with_reducible rfl)
            simp only [Act.put, List.setIfInBounds_toArray, List.set_cons_zero, List.set_cons_succ]
            refine tk 7 (v := ?vc28) ?yc28 hS ?_
            case yc28 =>
              intro w hSw
              obtain ⟨j2, j3⟩ := hSw
              go_simp; all_goals (with_reducible rfl)
            simp only [Act.put, List.setIfInBounds_toArray, List.set_cons_zero, List.set_cons_succ]
            refine tk 8 (v := ?vc29) ?yc29 hS ?_
            case yc29 =>
              intro w hSw
              go_simp; all_goals (with_reducible rfl)
            simp only [Act.put, List.setIfInBounds_toArray, List.set_cons_zero, List.set_cons_succ]
            refine wpAnyH_done (by kernel_rfl) ?_ _
            have hT2 := hT1.below (drew_below w1)
            have hon2 := hon1.drew
            clear q2 q3 hT1 hon1
            generalize w1.drew = wd at *
            have hsh := Lib.hid (rdscale_any 1 h b off cc l ⟨pos, c, rh, false⟩ _ hT2 rfl hhf hl (by show 16777216 ≤ rh * 256 ^ 1; have : 8388608 ≤ rh := hhr; omega))
            go_wp2_with fail
            refine hsh.out.mono ?_
            rintro e w4 ⟨rfl, hE4, hon4⟩
            go_wp2_with fail
            go_roundw
            case rel => exact ⟨t + 1, by omega, by rw [HN.out]; exact congrArg (Value.int .u32) (by omega), congrArg (Value.int .i64) (by omega), by rw [HN.out]; exact hE4, hon2.trans hon4 (by simp)⟩
            case measure => simp [intOf] <;> omega
        · have hlt' : ¬ (t : Int) < m := by omega
          have HPL := Lib.hid (HPI.out (by omega))
          have hD2 := hD
          obtain ⟨x, y, _, hT⟩ := hD2
          have k4 := c54 hT.blk
          rw [hout] at k4
          clear HPI HN hT hout
          go_wp2_with fail
          go_ret
          exact ⟨by rw [HPL.out]; rfl, by rw [HPL.out]; exact hD, hon⟩

set_option maxRecDepth 100000 in
set_option maxHeartbeats 1000000 in
theorem rddone_any (h b off cc : Nat) (l : List UInt8) (s : Rd.St) (w : World) (hE : RDecIs w h b off cc l s) :
    Calls Try.prog 26 #[.pointer (some ⟨h, 0, none⟩)] w (Says w (s.done l)) := by
  obtain ⟨x, y, hxy, hT0⟩ := hE
  obtain ⟨pos, c, r, out⟩ := s
  have hT : RDecAt w h b off cc l x y pos out := hT0
  have k0 : w.drew.cell? ⟨h, 0, none⟩ = some (.slice (some ⟨b, off, none⟩) l.length cc) := c50 hT.blk
  have k1 : w.drew.cell? ⟨h, 1, none⟩ = some (.int .i64 (pos : Nat)) := c51 hT.blk
  have k2 : w.drew.cell? ⟨h, 2, none⟩ = some (.int .u64 (x : Nat)) := c52 hT.blk
  have k4 : w.drew.cell? ⟨h, 4, none⟩ = some (.bool out) := c54 hT.blk
  clear hT0
  cases out with
  | true =>
    rw [show Rd.St.done l ⟨pos, c, r, true⟩ = false from rfl]
    clear hxy
    generalize l.length = L at k0
    go_enter Try.func26, Try.ntmps26
    go_wp2_with fail
    refine wp_region_held_drew (S := fun w' => w'.cell? ⟨h, 0, none⟩ = some (.slice (some ⟨b, off, none⟩) L cc) ∧ w'.cell? ⟨h, 1, none⟩ = some (.int .i64 (pos : Nat)) ∧ w'.cell? ⟨h, 2, none⟩ = some (.int .u64 (x : Nat)) ∧ w'.cell? ⟨h, 4, none⟩ = some (.bool true)) (by kernel_rfl) ⟨k0, k1, k2, k4⟩ (fun hS => ?_)
    refine tk 0 (v := ?ve30) ?ye30 hS ?_
    case ye30 =>
      intro w hSw
      go_simp; all_goals (with_reducible rfl)
    simp only [Act.put, List.setIfInBounds_toArray, List.set_cons_zero, List.set_cons_succ]
    refine tk 1 (v := ?ve31) ?ye31 hS ?_
    case ye31 =>
      intro w hSw
      go_simp; all_goals (with_reducible rfl)
    simp only [Act.put, List.setIfInBounds_toArray, List.set_cons_zero, List.set_cons_succ]
    refine tk 2 (v := ?ve32) ?ye32 hS ?_
    case ye32 =>
      intro w hSw
      go_simp; all_goals (with_reducible rfl)
    simp only [Act.put, List.setIfInBounds_toArray, List.set_cons_zero, List.set_cons_succ]
    refine tk 3 (v := ?ve33) ?ye33 hS ?_
    case ye33 =>
      intro w hSw
      obtain ⟨j0, j1, j2, j4⟩ := hSw
      go_simp; all_goals (with_reducible rfl)
    simp only [Act.put, List.setIfInBounds_toArray, List.set_cons_zero, List.set_cons_succ]
    refine tk 4 (v := ?ve34) ?ye34 hS ?_
    case ye34 =>
      intro w hSw
      go_simp; all_goals (with_reducible rfl)
    simp only [Act.put, List.setIfInBounds_toArray, List.set_cons_zero, List.set_cons_succ]
    refine tk 5 (v := ?ve35) ?ye35 hS ?_
    case ye35 =>
      intro w hSw
      go_simp; all_goals (with_reducible rfl)
    simp only [Act.put, List.setIfInBounds_toArray, List.set_cons_zero, List.set_cons_succ]
    refine wpAnyH_take (i := 6) (oi := { dst := some 9, op := Op.move (Operand.tmp 0), type := 66, pos := "ref.go:81", after := #[{ on := 5, ground := Ground.guard }], guard := some (5, true) }) (v := undef) rfl (by kernel_rfl) (by kernel_rfl) (by kernel_rfl) (fun _ _ _ h => h) (Or.inr ⟨by rfl, rfl⟩) hS ?_
    simp only [Act.put, List.setIfInBounds_toArray, List.set_cons_zero, List.set_cons_succ]
    refine wpAnyH_take (i := 7) (oi := { dst := some 10, op := Op.nilCheck (Operand.tmp 9), type := 0, pos := "ref.go:81", after := #[{ on := 6, ground := Ground.data }, { on := 5, ground := Ground.guard }], guard := some (5, true) }) (v := undef) rfl (by kernel_rfl) (by kernel_rfl) (by kernel_rfl) (fun _ _ _ h => h) (Or.inr ⟨by rfl, rfl⟩) hS ?_
    simp only [Act.put, List.setIfInBounds_toArray, List.set_cons_zero, List.set_cons_succ]
    refine wpAnyH_take (i := 8) (oi := { dst := some 11, op := Op.fieldAddr 97 (Operand.tmp 10) 1, type := 0, pos := "ref.go:81", after := #[{ on := 7, ground := Ground.data }, { on := 5, ground := Ground.guard }], guard := some (5, true) }) (v := undef) rfl (by kernel_rfl) (by kernel_rfl) (by kernel_rfl) (fun _ _ _ h => h) (Or.inr ⟨by rfl, rfl⟩) hS ?_
    simp only [Act.put, List.setIfInBounds_toArray, List.set_cons_zero, List.set_cons_succ]
    refine wpAnyH_take (i := 9) (oi := { dst := some 12, op := Op.load 3 (Operand.tmp 11), type := 3, pos := "ref.go:81", after := #[{ on := 8, ground := Ground.data }, { on := 5, ground := Ground.guard }], guard := some (5, true) }) (v := undef) rfl (by kernel_rfl) (by kernel_rfl) (by kernel_rfl) (fun _ _ _ h => h) (Or.inr ⟨by rfl, rfl⟩) hS ?_
    simp only [Act.put, List.setIfInBounds_toArray, List.set_cons_zero, List.set_cons_succ]
    refine wpAnyH_take (i := 10) (oi := { dst := some 13, op := Op.move (Operand.tmp 0), type := 66, pos := "ref.go:81", after := #[{ on := 5, ground := Ground.guard }], guard := some (5, true) }) (v := undef) rfl (by kernel_rfl) (by kernel_rfl) (by kernel_rfl) (fun _ _ _ h => h) (Or.inr ⟨by rfl, rfl⟩) hS ?_
    simp only [Act.put, List.setIfInBounds_toArray, List.set_cons_zero, List.set_cons_succ]
    refine wpAnyH_take (i := 11) (oi := { dst := some 14, op := Op.nilCheck (Operand.tmp 13), type := 0, pos := "ref.go:81", after := #[{ on := 10, ground := Ground.data }, { on := 5, ground := Ground.guard }], guard := some (5, true) }) (v := undef) rfl (by kernel_rfl) (by kernel_rfl) (by kernel_rfl) (fun _ _ _ h => h) (Or.inr ⟨by rfl, rfl⟩) hS ?_
    simp only [Act.put, List.setIfInBounds_toArray, List.set_cons_zero, List.set_cons_succ]
    refine wpAnyH_take (i := 12) (oi := { dst := some 15, op := Op.fieldAddr 97 (Operand.tmp 14) 0, type := 0, pos := "ref.go:81", after := #[{ on := 11, ground := Ground.data }, { on := 5, ground := Ground.guard }], guard := some (5, true) }) (v := undef) rfl (by kernel_rfl) (by kernel_rfl) (by kernel_rfl) (fun _ _ _ h => h) (Or.inr ⟨by rfl, rfl⟩) hS ?_
    simp only [Act.put, List.setIfInBounds_toArray, List.set_cons_zero, List.set_cons_succ]
    refine wpAnyH_take (i := 13) (oi := { dst := some 16, op := Op.load 22 (Operand.tmp 15), type := 22, pos := "ref.go:81", after := #[{ on := 12, ground := Ground.data }, { on := 5, ground := Ground.guard }], guard := some (5, true) }) (v := undef) rfl (by kernel_rfl) (by kernel_rfl) (by kernel_rfl) (fun _ _ _ h => h) (Or.inr ⟨by rfl, rfl⟩) hS ?_
    simp only [Act.put, List.setIfInBounds_toArray, List.set_cons_zero, List.set_cons_succ]
    refine wpAnyH_take (i := 14) (oi := { dst := some 17, op := Op.call { callee := Callee.builtin Builtin.len, args := #[Operand.tmp 16], argTypes := #[22] }, type := 3, pos := "ref.go:81", after := #[{ on := 13, ground := Ground.data }, { on := 5, ground := Ground.guard }], guard := some (5, true) }) (v := undef) rfl (by kernel_rfl) (by kernel_rfl) (by kernel_rfl) (fun _ _ _ h => h) (Or.inr ⟨by rfl, rfl⟩) hS ?_
    simp only [Act.put, List.setIfInBounds_toArray, List.set_cons_zero, List.set_cons_succ]
    refine wpAnyH_take (i := 15) (oi := { dst := some 18, op := Op.binOp BinOp.eql 3 (Operand.tmp 12) (Operand.tmp 17) 3, type := 4, pos := "ref.go:81", after := #[{ on := 9, ground := Ground.data }, { on := 14, ground := Ground.data }, { on := 5, ground := Ground.guard }], guard := some (5, true) }) (v := undef) rfl (by kernel_rfl) (by kernel_rfl) (by kernel_rfl) (fun _ _ _ h => h) (Or.inr ⟨by rfl, rfl⟩) hS ?_
    simp only [Act.put, List.setIfInBounds_toArray, List.set_cons_zero, List.set_cons_succ]
    refine tk 16 (v := ?ve46) ?ye46 hS ?_
    case ye46 =>
      intro w hSw
      go_simp; all_goals (with_reducible rfl)
    simp only [Act.put, List.setIfInBounds_toArray, List.set_cons_zero, List.set_cons_succ]
    refine tk 17 (v := ?ve47) ?ye47 hS ?_
    case ye47 =>
      intro w hSw
      go_simp; all_goals (with_reducible rfl)
    simp only [Act.put, List.setIfInBounds_toArray, List.set_cons_zero, List.set_cons_succ]
    refine wpAnyH_take (i := 18) (oi := { dst := some 21, op := Op.move (Operand.tmp 0), type := 66, pos := "ref.go:81", after := #[{ on := 17, ground := Ground.guard }], guard := some (17, true) }) (v := undef) rfl (by kernel_rfl) (by kernel_rfl) (by kernel_rfl) (fun _ _ _ h => h) (Or.inr ⟨by rfl, rfl⟩) hS ?_
    simp only [Act.put, List.setIfInBounds_toArray, List.set_cons_zero, List.set_cons_succ]
    refine wpAnyH_take (i := 19) (oi := { dst := some 22, op := Op.nilCheck (Operand.tmp 21), type := 0, pos := "ref.go:81", after := #[{ on := 18, ground := Ground.data }, { on := 17, ground := Ground.guard }], guard := some (17, true) }) (v := undef) rfl (by kernel_rfl) (by kernel_rfl) (by kernel_rfl) (fun _ _ _ h => h) (Or.inr ⟨by rfl, rfl⟩) hS ?_
    simp only [Act.put, List.setIfInBounds_toArray, List.set_cons_zero, List.set_cons_succ]
    refine wpAnyH_take (i := 20) (oi := { dst := some 23, op := Op.fieldAddr 97 (Operand.tmp 22) 2, type := 0, pos := "ref.go:81", after := #[{ on := 19, ground := Ground.data }, { on := 17, ground := Ground.guard }], guard := some (17, true) }) (v := undef) rfl (by kernel_rfl) (by kernel_rfl) (by kernel_rfl) (fun _ _ _ h => h) (Or.inr ⟨by rfl, rfl⟩) hS ?_
    simp only [Act.put, List.setIfInBounds_toArray, List.set_cons_zero, List.set_cons_succ]
    refine wpAnyH_take (i := 21) (oi := { dst := some 24, op := Op.load 95 (Operand.tmp 23), type := 95, pos := "ref.go:81", after := #[{ on := 20, ground := Ground.data }, { on := 17, ground := Ground.guard }], guard := some (17, true) }) (v := undef) rfl (by kernel_rfl) (by kernel_rfl) (by kernel_rfl) (fun _ _ _ h => h) (Or.inr ⟨by rfl, rfl⟩) hS ?_
    simp only [Act.put, List.setIfInBounds_toArray, List.set_cons_zero, List.set_cons_succ]
    refine wpAnyH_take (i := 22) (oi := { dst := some 25, op := Op.binOp BinOp.eql 95 (Operand.tmp 24) (Operand.const (Value.int IntKind.u64 0)) 95, type := 4, pos := "ref.go:81", after := #[{ on := 21, ground := Ground.data }, { on := 17, ground := Ground.guard }], guard := some (17, true) }) (v := undef) rfl (by kernel_rfl) (by kernel_rfl) (by kernel_rfl) (fun _ _ _ h => h) (Or.inr ⟨by rfl, rfl⟩) hS ?_
    simp only [Act.put, List.setIfInBounds_toArray, List.set_cons_zero, List.set_cons_succ]
    refine tk 23 (v := ?ve53) ?ye53 hS ?_
    case ye53 =>
      intro w hSw
      go_simp; all_goals (with_reducible rfl)
    simp only [Act.put, List.setIfInBounds_toArray, List.set_cons_zero, List.set_cons_succ]
    refine tk 24 (v := ?ve54) ?ye54 hS ?_
    case ye54 =>
      intro w hSw
      go_simp; all_goals (with_reducible rfl)
    simp only [Act.put, List.setIfInBounds_toArray, List.set_cons_zero, List.set_cons_succ]
    refine wpAnyH_done (by kernel_rfl) ?_ _
    go_wp2_with fail
    go_ret
    exact ⟨rfl, (Below.refl _ _).drew⟩
  | false =>
    obtain rfl : c = x := (hxy rfl).1.symm
    have hd : Rd.St.done l ⟨pos, c, r, false⟩ = (pos == l.length && c == 0) := rfl
    rw [hd]
    clear hxy hd
    generalize l.length = L at k0 ⊢
    by_cases hp : pos = L
    · have hpi : ((pos : Int) == (L : Int)) = true := by simp [hp]
      by_cases hc : c = 0
      · have hci : ((c : Int) == 0) = true := by simp [hc]
        rw [show (pos == L && c == 0) = true by simp [hp, hc]]
        clear hp hc
        go_enter Try.func26, Try.ntmps26
        go_wp2_with fail
        refine wp_region_held_drew (S := fun w' => w'.cell? ⟨h, 0, none⟩ = some (.slice (some ⟨b, off, none⟩) L cc) ∧ w'.cell? ⟨h, 1, none⟩ = some (.int .i64 (pos : Nat)) ∧ w'.cell? ⟨h, 2, none⟩ = some (.int .u64 (c : Nat)) ∧ w'.cell? ⟨h, 4, none⟩ = some (.bool false)) (by kernel_rfl) ⟨k0, k1, k2, k4⟩ (fun hS => ?_)
        refine tk 0 (v := ?vf55) ?yf55 hS ?_
        case yf55 =>
          intro w hSw
          go_simp; all_goals (with_reducible rfl)
        simp only [Act.put, List.setIfInBounds_toArray, List.set_cons_zero, List.set_cons_succ]
        refine tk 1 (v := ?vf56) ?yf56 hS ?_
        case yf56 =>
          intro w hSw
          go_simp; all_goals (with_reducible rfl)
        simp only [Act.put, List.setIfInBounds_toArray, List.set_cons_zero, List.set_cons_succ]
        refine tk 2 (v := ?vf57) ?yf57 hS ?_
        case yf57 =>
          intro w hSw
          go_simp; all_goals (with_reducible rfl)
        simp only [Act.put, List.setIfInBounds_toArray, List.set_cons_zero, List.set_cons_succ]
        refine tk 3 (v := ?vf58) ?yf58 hS ?_
        case yf58 =>
          intro w hSw
          obtain ⟨j0, j1, j2, j4⟩ := hSw
          go_simp; all_goals (with_reducible rfl)
        simp only [Act.put, List.setIfInBounds_toArray, List.set_cons_zero, List.set_cons_succ]
        refine tk 4 (v := ?vf59) ?yf59 hS ?_
        case yf59 =>
          intro w hSw
          go_simp; all_goals (with_reducible rfl)
        simp only [Act.put, List.setIfInBounds_toArray, List.set_cons_zero, List.set_cons_succ]
        refine tk 5 (v := ?vf60) ?yf60 hS ?_
        case yf60 =>
          intro w hSw
          go_simp; all_goals (with_reducible rfl)
        simp only [Act.put, List.setIfInBounds_toArray, List.set_cons_zero, List.set_cons_succ]
        refine tk 6 (v := ?vf61) ?yf61 hS ?_
        case yf61 =>
          intro w hSw
          go_simp; all_goals (with_reducible rfl)
        simp only [Act.put, List.setIfInBounds_toArray, List.set_cons_zero, List.set_cons_succ]
        refine tk 7 (v := ?vf62) ?yf62 hS ?_
        case yf62 =>
          intro w hSw
          go_simp; all_goals (with_reducible rfl)
        simp only [Act.put, List.setIfInBounds_toArray, List.set_cons_zero, List.set_cons_succ]
        refine tk 8 (v := ?vf63) ?yf63 hS ?_
        case yf63 =>
          intro w hSw
          go_simp; all_goals (with_reducible rfl)
        simp only [Act.put, List.setIfInBounds_toArray, List.set_cons_zero, List.set_cons_succ]
        refine tk 9 (v := ?vf64) ?yf64 hS ?_
        case yf64 =>
          intro w hSw
          obtain ⟨j0, j1, j2, j4⟩ := hSw
          go_simp; all_goals (with_reducible rfl)
        simp only [Act.put, List.setIfInBounds_toArray, List.set_cons_zero, List.set_cons_succ]
        refine tk 10 (v := ?vf65) ?yf65 hS ?_
        case yf65 =>
          intro w hSw
          go_simp; all_goals (with_reducible rfl)
        simp only [Act.put, List.setIfInBounds_toArray, List.set_cons_zero, List.set_cons_succ]
        refine tk 11 (v := ?vf66) ?yf66 hS ?_
        case yf66 =>
          intro w hSw
          go_simp; all_goals (with_reducible rfl)
        simp only [Act.put, List.setIfInBounds_toArray, List.set_cons_zero, List.set_cons_succ]
        refine tk 12 (v := ?vf67) ?yf67 hS ?_
        case yf67 =>
          intro w hSw
          go_simp; all_goals (with_reducible rfl)
        simp only [Act.put, List.setIfInBounds_toArray, List.set_cons_zero, List.set_cons_succ]
        refine tk 13 (v := ?vf68) ?yf68 hS ?_
        case yf68 =>
          intro w hSw
          obtain ⟨j0, j1, j2, j4⟩ := hSw
          go_simp; all_goals (with_reducible rfl)
        simp only [Act.put, List.setIfInBounds_toArray, List.set_cons_zero, List.set_cons_succ]
        refine tk 14 (v := ?vf69) ?yf69 hS ?_
        case yf69 =>
          intro w hSw
          go_simp; all_goals (with_reducible rfl)
        simp only [Act.put, List.setIfInBounds_toArray, List.set_cons_zero, List.set_cons_succ]
        refine tk 15 (v := ?vf70) ?yf70 hS ?_
        case yf70 =>
          intro w hSw
          go_simp; all_goals (with_reducible rfl)
        simp only [Act.put, List.setIfInBounds_toArray, List.set_cons_zero, List.set_cons_succ]
        refine tk 16 (v := ?vf71) ?yf71 hS ?_
        case yf71 =>
          intro w hSw
          go_simp; all_goals (with_reducible rfl)
        simp only [Act.put, List.setIfInBounds_toArray, List.set_cons_zero, List.set_cons_succ]
        refine tk 17 (v := ?vf72) ?yf72 hS ?_
        case yf72 =>
          intro w hSw
          go_simp; all_goals (with_reducible rfl)
        simp only [Act.put, List.setIfInBounds_toArray, List.set_cons_zero, List.set_cons_succ]
        refine tk 18 (v := ?vf73) ?yf73 hS ?_
        case yf73 =>
          intro w hSw
          go_simp; all_goals (with_reducible rfl)
        simp only [Act.put, List.setIfInBounds_toArray, List.set_cons_zero, List.set_cons_succ]
        refine tk 19 (v := ?vf74) ?yf74 hS ?_
        case yf74 =>
          intro w hSw
          go_simp; all_goals (with_reducible rfl)
        simp only [Act.put, List.setIfInBounds_toArray, List.set_cons_zero, List.set_cons_succ]
        refine tk 20 (v := ?vf75) ?yf75 hS ?_
        case yf75 =>
          intro w hSw
          go_simp; all_goals (with_reducible rfl)
        simp only [Act.put, List.setIfInBounds_toArray, List.set_cons_zero, List.set_cons_succ]
        refine tk 21 (v := ?vf76) ?yf76 hS ?_
        case yf76 =>
          intro w hSw
          obtain ⟨j0, j1, j2, j4⟩ := hSw
          go_simp; all_goals (with_reducible rfl)
        simp only [Act.put, List.setIfInBounds_toArray, List.set_cons_zero, List.set_cons_succ]
        refine tk 22 (v := ?vf77) ?yf77 hS ?_
        case yf77 =>
          intro w hSw
          go_simp; all_goals (with_reducible rfl)
        simp only [Act.put, List.setIfInBounds_toArray, List.set_cons_zero, List.set_cons_succ]
        refine tk 23 (v := ?vf78) ?yf78 hS ?_
        case yf78 =>
          intro w hSw
          go_simp; all_goals (with_reducible rfl)
        simp only [Act.put, List.setIfInBounds_toArray, List.set_cons_zero, List.set_cons_succ]
        refine tk 24 (v := ?vf79) ?yf79 hS ?_
        case yf79 =>
          intro w hSw
          go_simp; all_goals (with_reducible rfl)
        simp only [Act.put, List.setIfInBounds_toArray, List.set_cons_zero, List.set_cons_succ]
        refine wpAnyH_done (by kernel_rfl) ?_ _
        go_wp2_with fail
        go_ret
        exact ⟨rfl, (Below.refl _ _).drew⟩
      · have hci : ((c : Int) == 0) = false := beq_eq_false_iff_ne.2 (by omega)
        rw [show (pos == L && c == 0) = false by simp [hc]]
        clear hp hc
        go_enter Try.func26, Try.ntmps26
        go_wp2_with fail
        refine wp_region_held_drew (S := fun w' => w'.cell? ⟨h, 0, none⟩ = some (.slice (some ⟨b, off, none⟩) L cc) ∧ w'.cell? ⟨h, 1, none⟩ = some (.int .i64 (pos : Nat)) ∧ w'.cell? ⟨h, 2, none⟩ = some (.int .u64 (c : Nat)) ∧ w'.cell? ⟨h, 4, none⟩ = some (.bool false)) (by kernel_rfl) ⟨k0, k1, k2, k4⟩ (fun hS => ?_)
        refine tk 0 (v := ?vg80) ?yg80 hS ?_
        case yg80 =>
          intro w hSw
          go_simp; all_goals (with_reducible rfl)
        simp only [Act.put, List.setIfInBounds_toArray, List.set_cons_zero, List.set_cons_succ]
        refine tk 1 (v := ?vg81) ?yg81 hS ?_
        case yg81 =>
          intro w hSw
          go_simp; all_goals (with_reducible rfl)
        simp only [Act.put, List.setIfInBounds_toArray, List.set_cons_zero, List.set_cons_succ]
        refine tk 2 (v := ?vg82) ?yg82 hS ?_
        case yg82 =>
          intro w hSw
          go_simp; all_goals (with_reducible rfl)
        simp only [Act.put, List.setIfInBounds_toArray, List.set_cons_zero, List.set_cons_succ]
        refine tk 3 (v := ?vg83) ?yg83 hS ?_
        case yg83 =>
          intro w hSw
          obtain ⟨j0, j1, j2, j4⟩ := hSw
          go_simp; all_goals (with_reducible rfl)
        simp only [Act.put, List.setIfInBounds_toArray, List.set_cons_zero, List.set_cons_succ]
        refine tk 4 (v := ?vg84) ?yg84 hS ?_
        case yg84 =>
          intro w hSw
          go_simp; all_goals (with_reducible rfl)
        simp only [Act.put, List.setIfInBounds_toArray, List.set_cons_zero, List.set_cons_succ]
        refine tk 5 (v := ?vg85) ?yg85 hS ?_
        case yg85 =>
          intro w hSw
          go_simp; all_goals (with_reducible rfl)
        simp only [Act.put, List.setIfInBounds_toArray, List.set_cons_zero, List.set_cons_succ]
        refine tk 6 (v := ?vg86) ?yg86 hS ?_
        case yg86 =>
          intro w hSw
          go_simp; all_goals (with_reducible rfl)
        simp only [Act.put, List.setIfInBounds_toArray, List.set_cons_zero, List.set_cons_succ]
        refine tk 7 (v := ?vg87) ?yg87 hS ?_
        case yg87 =>
          intro w hSw
          go_simp; all_goals (with_reducible rfl)
        simp only [Act.put, List.setIfInBounds_toArray, List.set_cons_zero, List.set_cons_succ]
        refine tk 8 (v := ?vg88) ?yg88 hS ?_
        case yg88 =>
          intro w hSw
          go_simp; all_goals (with_reducible rfl)
        simp only [Act.put, List.setIfInBounds_toArray, List.set_cons_zero, List.set_cons_succ]
        refine tk 9 (v := ?vg89) ?yg89 hS ?_
        case yg89 =>
          intro w hSw
          obtain ⟨j0, j1, j2, j4⟩ := hSw
          go_simp; all_goals (with_reducible rfl)
        simp only [Act.put, List.setIfInBounds_toArray, List.set_cons_zero, List.set_cons_succ]
        refine tk 10 (v := ?vg90) ?yg90 hS ?_
        case yg90 =>
          intro w hSw
          go_simp; all_goals (with_reducible rfl)
        simp only [Act.put, List.setIfInBounds_toArray, List.set_cons_zero, List.set_cons_succ]
        refine tk 11 (v := ?vg91) ?yg91 hS ?_
        case yg91 =>
          intro w hSw
          go_simp; all_goals (with_reducible rfl)
        simp only [Act.put, List.setIfInBounds_toArray, List.set_cons_zero, List.set_cons_succ]
        refine tk 12 (v := ?vg92) ?yg92 hS ?_
        case yg92 =>
          intro w hSw
          go_simp; all_goals (with_reducible rfl)
        simp only [Act.put, List.setIfInBounds_toArray, List.set_cons_zero, List.set_cons_succ]
        refine tk 13 (v := ?vg93) ?yg93 hS ?_
        case yg93 =>
          intro w hSw
          obtain ⟨j0, j1, j2, j4⟩ := hSw
          go_simp; all_goals (with_reducible rfl)
        simp only [Act.put, List.setIfInBounds_toArray, List.set_cons_zero, List.set_cons_succ]
        refine tk 14 (v := ?vg94) ?yg94 hS ?_
        case yg94 =>
          intro w hSw
          go_simp; all_goals (with_reducible rfl)
        simp only [Act.put, List.setIfInBounds_toArray, List.set_cons_zero, List.set_cons_succ]
        refine tk 15 (v := ?vg95) ?yg95 hS ?_
        case yg95 =>
          intro w hSw
          go_simp; all_goals (with_reducible rfl)
        simp only [Act.put, List.setIfInBounds_toArray, List.set_cons_zero, List.set_cons_succ]
        refine tk 16 (v := ?vg96) ?yg96 hS ?_
        case yg96 =>
          intro w hSw
          go_simp; all_goals (with_reducible rfl)
        simp only [Act.put, List.setIfInBounds_toArray, List.set_cons_zero, List.set_cons_succ]
        refine tk 17 (v := ?vg97) ?yg97 hS ?_
        case yg97 =>
          intro w hSw
          go_simp; all_goals (with_reducible rfl)
        simp only [Act.put, List.setIfInBounds_toArray, List.set_cons_zero, List.set_cons_succ]
        refine tk 18 (v := ?vg98) ?yg98 hS ?_
        case yg98 =>
          intro w hSw
          go_simp; all_goals (with_reducible rfl)
        simp only [Act.put, List.setIfInBounds_toArray, List.set_cons_zero, List.set_cons_succ]
        refine tk 19 (v := ?vg99) ?yg99 hS ?_
        case yg99 =>
          intro w hSw
          go_simp; all_goals (with_reducible rfl)
        simp only [Act.put, List.setIfInBounds_toArray, List.set_cons_zero, List.set_cons_succ]
        refine tk 20 (v := ?vg100) ?yg100 hS ?_
        case yg100 =>
          intro w hSw
          go_simp; all_goals (with_reducible rfl)
        simp only [Act.put, List.setIfInBounds_toArray, List.set_cons_zero, List.set_cons_succ]
        refine tk 21 (v := ?vg101) ?yg101 hS ?_
        case yg101 =>
          intro w hSw
          obtain ⟨j0, j1, j2, j4⟩ := hSw
          go_simp; all_goals (with_reducible rfl)
        simp only [Act.put, List.setIfInBounds_toArray, List.set_cons_zero, List.set_cons_succ]
        refine tk 22 (v := ?vg102) ?yg102 hS ?_
        case yg102 =>
          intro w hSw
          go_simp; all_goals (with_reducible rfl)
        simp only [Act.put, List.setIfInBounds_toArray, List.set_cons_zero, List.set_cons_succ]
        refine tk 23 (v := ?vg103) ?yg103 hS ?_
        case yg103 =>
          intro w hSw
          go_simp; all_goals (with_reducible rfl)
        simp only [Act.put, List.setIfInBounds_toArray, List.set_cons_zero, List.set_cons_succ]
        refine tk 24 (v := ?vg104) ?yg104 hS ?_
        case yg104 =>
          intro w hSw
          go_simp; all_goals (with_reducible rfl)
        simp only [Act.put, List.setIfInBounds_toArray, List.set_cons_zero, List.set_cons_succ]
        refine wpAnyH_done (by kernel_rfl) ?_ _
        go_wp2_with fail
        go_ret
        exact ⟨rfl, (Below.refl _ _).drew⟩
    · have hpi : ((pos : Int) == (L : Int)) = false := beq_eq_false_iff_ne.2 (by omega)
      rw [show (pos == L && c == 0) = false by simp [hp]]
      clear hp
      go_enter Try.func26, Try.ntmps26
      go_wp2_with fail
      refine wp_region_held_drew (S := fun w' => w'.cell? ⟨h, 0, none⟩ = some (.slice (some ⟨b, off, none⟩) L cc) ∧ w'.cell? ⟨h, 1, none⟩ = some (.int .i64 (pos : Nat)) ∧ w'.cell? ⟨h, 2, none⟩ = some (.int .u64 (c : Nat)) ∧ w'.cell? ⟨h, 4, none⟩ = some (.bool false)) (by kernel_rfl) ⟨k0, k1, k2, k4⟩ (fun hS => ?_)
      refine tk 0 (v := ?vh105) ?yh105 hS ?_
      case yh105 =>
        intro w hSw
        go_simp; all_goals (with_reducible rfl)
      simp only [Act.put, List.setIfInBounds_toArray, List.set_cons_zero, List.set_cons_succ]
      refine tk 1 (v := ?vh106) ?yh106 hS ?_
      case yh106 =>
        intro w hSw
        go_simp; all_goals (with_reducible rfl)
      simp only [Act.put, List.setIfInBounds_toArray, List.set_cons_zero, List.set_cons_succ]
      refine tk 2 (v := ?vh107) ?yh107 hS ?_
      case yh107 =>
        intro w hSw
        go_simp; all_goals (with_reducible rfl)
      simp only [Act.put, List.setIfInBounds_toArray, List.set_cons_zero, List.set_cons_succ]
      refine tk 3 (v := ?vh108) ?yh108 hS ?_
      case yh108 =>
        intro w hSw
        obtain ⟨j0, j1, j2, j4⟩ := hSw
        go_simp; all_goals (with_reducible rfl)
      simp only [Act.put, List.setIfInBounds_toArray, List.set_cons_zero, List.set_cons_succ]
      refine tk 4 (v := ?vh109) ?yh109 hS ?_
      case yh109 =>
        intro w hSw
        go_simp; all_goals (with_reducible rfl)
      simp only [Act.put, List.setIfInBounds_toArray, List.set_cons_zero, List.set_cons_succ]
      refine tk 5 (v := ?vh110) ?yh110 hS ?_
      case yh110 =>
        intro w hSw
        go_simp; all_goals (with_reducible rfl)
      simp only [Act.put, List.setIfInBounds_toArray, List.set_cons_zero, List.set_cons_succ]
      refine tk 6 (v := ?vh111) ?yh111 hS ?_
      case yh111 =>
        intro w hSw
        go_simp; all_goals (with_reducible rfl)
      simp only [Act.put, List.setIfInBounds_toArray, List.set_cons_zero, List.set_cons_succ]
      refine tk 7 (v := ?vh112) ?yh112 hS ?_
      case yh112 =>
        intro w hSw
        go_simp; all_goals (with_reducible rfl)
      simp only [Act.put, List.setIfInBounds_toArray, List.set_cons_zero, List.set_cons_succ]
      refine tk 8 (v := ?vh113) ?yh113 hS ?_
      case yh113 =>
        intro w hSw
        go_simp; all_goals (with_reducible rfl)
      simp only [Act.put, List.setIfInBounds_toArray, List.set_cons_zero, List.set_cons_succ]
      refine tk 9 (v := ?vh114) ?yh114 hS ?_
      case yh114 =>
        intro w hSw
        obtain ⟨j0, j1, j2, j4⟩ := hSw
        go_simp; all_goals (with_reducible rfl)
      simp only [Act.put, List.setIfInBounds_toArray, List.set_cons_zero, List.set_cons_succ]
      refine tk 10 (v := ?vh115) ?yh115 hS ?_
      case yh115 =>
        intro w hSw
        go_simp; all_goals (with_reducible rfl)
      simp only [Act.put, List.setIfInBounds_toArray, List.set_cons_zero, List.set_cons_succ]
      refine tk 11 (v := ?vh116) ?yh116 hS ?_
      case yh116 =>
        intro w hSw
        go_simp; all_goals (with_reducible rfl)
      simp only [Act.put, List.setIfInBounds_toArray, List.set_cons_zero, List.set_cons_succ]
      refine tk 12 (v := ?vh117) ?yh117 hS ?_
      case yh117 =>
        intro w hSw
        go_simp; all_goals (with_reducible rfl)
      simp only [Act.put, List.setIfInBounds_toArray, List.set_cons_zero, List.set_cons_succ]
      refine tk 13 (v := ?vh118) ?yh118 hS ?_
      case yh118 =>
        intro w hSw
        obtain ⟨j0, j1, j2, j4⟩ := hSw
        go_simp; all_goals (with_reducible rfl)
      simp only [Act.put, List.setIfInBounds_toArray, List.set_cons_zero, List.set_cons_succ]
      refine tk 14 (v := ?vh119) ?yh119 hS ?_
      case yh119 =>
        intro w hSw
        go_simp; all_goals (with_reducible rfl)
      simp only [Act.put, List.setIfInBounds_toArray, List.set_cons_zero, List.set_cons_succ]
      refine tk 15 (v := ?vh120) ?yh120 hS ?_
      case yh120 =>
        intro w hSw
        go_simp; all_goals (with_reducible rfl)
      simp only [Act.put, List.setIfInBounds_toArray, List.set_cons_zero, List.set_cons_succ]
      refine tk 16 (v := ?vh121) ?yh121 hS ?_
      case yh121 =>
        intro w hSw
        go_simp; all_goals (with_reducible rfl)
      simp only [Act.put, List.setIfInBounds_toArray, List.set_cons_zero, List.set_cons_succ]
      refine tk 17 (v := ?vh122) ?yh122 hS ?_
      case yh122 =>
        intro w hSw
        go_simp; all_goals (with_reducible rfl)
      simp only [Act.put, List.setIfInBounds_toArray, List.set_cons_zero, List.set_cons_succ]
      refine wpAnyH_take (i := 18) (oi := { dst := some 21, op := Op.move (Operand.tmp 0), type := 66, pos := "ref.go:81", after := #[{ on := 17, ground := Ground.guard }], guard := some (17, true) }) (v := undef) rfl (by kernel_rfl) (by kernel_rfl) (by kernel_rfl) (fun _ _ _ h => h) (Or.inr ⟨by rfl, rfl⟩) hS ?_
      simp only [Act.put, List.setIfInBounds_toArray, List.set_cons_zero, List.set_cons_succ]
      refine wpAnyH_take (i := 19) (oi := { dst := some 22, op := Op.nilCheck (Operand.tmp 21), type := 0, pos := "ref.go:81", after := #[{ on := 18, ground := Ground.data }, { on := 17, ground := Ground.guard }], guard := some (17, true) }) (v := undef) rfl (by kernel_rfl) (by kernel_rfl) (by kernel_rfl) (fun _ _ _ h => h) (Or.inr ⟨by rfl, rfl⟩) hS ?_
      simp only [Act.put, List.setIfInBounds_toArray, List.set_cons_zero, List.set_cons_succ]
      refine wpAnyH_take (i := 20) (oi := { dst := some 23, op := Op.fieldAddr 97 (Operand.tmp 22) 2, type := 0, pos := "ref.go:81", after := #[{ on := 19, ground := Ground.data }, { on := 17, ground := Ground.guard }], guard := some (17, true) }) (v := undef) rfl (by kernel_rfl) (by kernel_rfl) (by kernel_rfl) (fun _ _ _ h => h) (Or.inr ⟨by rfl, rfl⟩) hS ?_
      simp only [Act.put, List.setIfInBounds_toArray, List.set_cons_zero, List.set_cons_succ]
      refine wpAnyH_take (i := 21) (oi := { dst := some 24, op := Op.load 95 (Operand.tmp 23), type := 95, pos := "ref.go:81", after := #[{ on := 20, ground := Ground.data }, { on := 17, ground := Ground.guard }], guard := some (17, true) }) (v := undef) rfl (by kernel_rfl) (by kernel_rfl) (by kernel_rfl) (fun _ _ _ h => h) (Or.inr ⟨by rfl, rfl⟩) hS ?_
      simp only [Act.put, List.setIfInBounds_toArray, List.set_cons_zero, List.set_cons_succ]
      refine wpAnyH_take (i := 22) (oi := { dst := some 25, op := Op.binOp BinOp.eql 95 (Operand.tmp 24) (Operand.const (Value.int IntKind.u64 0)) 95, type := 4, pos := "ref.go:81", after := #[{ on := 21, ground := Ground.data }, { on := 17, ground := Ground.guard }], guard := some (17, true) }) (v := undef) rfl (by kernel_rfl) (by kernel_rfl) (by kernel_rfl) (fun _ _ _ h => h) (Or.inr ⟨by rfl, rfl⟩) hS ?_
      simp only [Act.put, List.setIfInBounds_toArray, List.set_cons_zero, List.set_cons_succ]
      refine tk 23 (v := ?vh128) ?yh128 hS ?_
      case yh128 =>
        intro w hSw
        go_simp; all_goals (with_reducible rfl)
      simp only [Act.put, List.setIfInBounds_toArray, List.set_cons_zero, List.set_cons_succ]
      refine tk 24 (v := ?vh129) ?yh129 hS ?_
      case yh129 =>
        intro w hSw
        go_simp; all_goals (with_reducible rfl)
      simp only [Act.put, List.setIfInBounds_toArray, List.set_cons_zero, List.set_cons_succ]
      refine wpAnyH_done (by kernel_rfl) ?_ _
      go_wp2_with fail
      go_ret
      exact ⟨rfl, (Below.refl _ _).drew⟩

end Go.Proofs.Ytkckjjchfccdjaa
