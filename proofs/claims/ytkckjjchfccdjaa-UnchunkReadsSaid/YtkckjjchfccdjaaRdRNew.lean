/- The walks over the reference's New, and the statements' examples. -/
import Derived.Test.YtkckjjchfccdjaaMg1
import Derived.Test.YtkckjjchfccdjaaRdRef2
namespace Go.Proofs.Ytkckjjchfccdjaa
set_option maxRecDepth 100000
open Go.RowKit

/-- Code as it is put together. -/
def Rd.pc (l : List UInt8) : Nat → Nat
  | 0 => 0
  | t + 1 => 256 * Rd.pc l t + (l.getD (t + 1) 0).toNat
theorem Rd.pc_lt (l : List UInt8) : ∀ t, Rd.pc l t < 256 ^ t
  | 0 => by show 0 < 1; omega
  | t + 1 => by
    have h1 := Rd.pc_lt l t
    have h2 := (l.getD (t + 1) 0).toNat_lt
    show 256 * Rd.pc l t + _ < _
    rw [Nat.pow_succ]; omega
theorem Rd.pc_four (l : List UInt8) : Rd.pc l 4 = Rd.code0 l := by
  show 256 * (256 * (256 * (256 * 0 + (l.getD 1 0).toNat) + (l.getD 2 0).toNat) + (l.getD 3 0).toNat) + (l.getD 4 0).toNat = _
  unfold Rd.code0; omega

def RNone (w : World) (n : Int) (e : Ending) (w' : World) : Prop := e = .returned (.tuple #[.pointer none, .int .i64 n]) ∧ w = w'
def RSome (w : World) (b off cc : Nat) (l : List UInt8) (e : Ending) (w' : World) : Prop :=
  ∃ h, e = .returned (.tuple #[.pointer (some ⟨h, 0, none⟩), .int .i64 0]) ∧ RDecIs w' h b off cc l (Rd.start l) ∧ Below w.heap.size w w' ∧ w.heap.size ≤ h

set_option maxRecDepth 100000 in
set_option maxHeartbeats 1000000 in
theorem rdnew_short (A : Option Addr) (l : List UInt8) (c : Nat) (w : World) (h : l.length < 5) :
    Calls Try.prog 24 #[.slice A l.length c] w (RNone w 2) := by
  generalize l.length = L at *
  have h' : (L : Int) < 5 := by omega
  go_enter Try.func24, Try.ntmps24
  go_wp2_with fail
  go_ret2
  exact ⟨rfl, rfl⟩

set_option maxRecDepth 100000 in
set_option maxHeartbeats 1000000 in
theorem rdnew_bad (A : Option Addr) (l : List UInt8) (c : Nat) (w : World) (hB : Bytes w A l) (h : 5 ≤ l.length) (h0 : l.getD 0 0 ≠ 0) :
    Calls Try.prog 24 #[.slice A l.length c] w (RNone w 6) := by
  obtain ⟨b, off, rfl, hb, hc⟩ := hB.five h
  have k0 := hc 0 (by omega)
  rw [Nat.add_zero] at k0
  have hne : ((l.getD 0 0).toNat : Int) != 0 := by
    rw [bne_iff_ne]; intro he; exact h0 (UInt8.toNat_inj.1 (by simpa using he))
  generalize l.getD 0 0 = b0 at *
  generalize l.length = L at *
  have h' : ¬ (L : Int) < 5 := by omega
  have h5 : 0 < L := by omega
  have h6 : ((b0.toNat : Int) == 0) = false := by rw [beq_eq_false_iff_ne]; exact bne_iff_ne.1 hne
  clear hc h0
  go_enter Try.func24, Try.ntmps24
  go_wp2_with fail
  go_ret2
  exact ⟨rfl, rfl⟩

theorem code_ref2 (c b : Nat) (hc : c < 4294967296) (hb : b < 256) : IntKind.u64.wrap (IntKind.u64.wrap (256 * (c : Int)) + IntKind.u64.wrap (b : Int)) = ((256 * c + b : Nat) : Int) := by
  have e1 : IntKind.u64.wrap (256 * (c : Int)) = ((256 * c : Nat) : Int) := by rw [IntKind.wrap_u64]; omega
  have e2 : IntKind.u64.wrap (b : Int) = (b : Int) := by rw [IntKind.wrap_u64]; omega
  have e3 : IntKind.u64.wrap (((256 * c : Nat) : Int) + (b : Int)) = ((256 * c + b : Nat) : Int) := by rw [IntKind.wrap_u64]; omega
  rw [e1, e2, e3]

set_option maxRecDepth 100000 in
set_option maxHeartbeats 1000000 in
theorem rdnew_good (b off : Nat) (l : List UInt8) (c : Nat) (w : World) (hB : Bytes w (some ⟨b, off, none⟩) l) (h : 5 ≤ l.length) (h0 : l.getD 0 0 = 0) :
    Calls Try.prog 24 #[.slice (some ⟨b, off, none⟩) l.length c] w (RSome w b off c l) := by
  obtain ⟨b', off', he, hb, hc⟩ := hB.five h
  injection he with he; injection he with he1 he2; subst he1; subst he2
  have k0 := hc 0 (by omega)
  rw [Nat.add_zero, h0] at k0
  have HC := Lib.hid hc
  have hblk := heap_alloc_new w (.cells #[.slice (some ⟨b, off, none⟩) l.length c, .int .i64 5, .int .u64 0, .int .u64 4294967295, .bool false] 97)
  have hbel : Below w.heap.size w (w.alloc (.cells #[.slice (some ⟨b, off, none⟩) l.length c, .int .i64 5, .int .u64 0, .int .u64 4294967295, .bool false] 97)) := (Below.refl _ _).alloc (Nat.le_refl _) _
  have hT : RDecAt (w.alloc (.cells #[.slice (some ⟨b, off, none⟩) l.length c, .int .i64 5, .int .u64 0, .int .u64 4294967295, .bool false] 97)) w.heap.size b off c l (Rd.pc l 0) 4294967295 5 false := ⟨hblk, hB.alloc _, by omega, by simp; omega⟩
  generalize hL : l.length = L at *
  have HL := Lib.hid hL
  have h' : ¬ (L : Int) < 5 := by omega
  have g0 : 0 < L := by omega
  clear hc h0 hblk hB hL
  go_enter Try.func24, Try.ntmps24
  go_wp2_with fail
  generalize w.alloc (.cells #[.slice (some ⟨b, off, none⟩) L c, .int .i64 5, .int .u64 0, .int .u64 4294967295, .bool false] 97) = w1 at *
  go_loopw [5] (fun i wr => ∃ t : Nat, 1 ≤ t ∧ t ≤ 5 ∧ i = .int .i64 (t : Nat) ∧ RDecAt wr w.heap.size b off c l (Rd.pc l (t - 1)) 4294967295 5 false ∧ Below w.heap.size w wr) (fun i _ => 5 - (intOf i).toNat)
  case atStart => exact ⟨1, by omega, by omega, rfl, hT, hbel⟩
  case round =>
    obtain ⟨t, ht1, ht5, rfl, hT2, hbe⟩ := hrel
    clear hT hbel k0
    by_cases hlt : t < 5
    · have hlt' : (t : Int) < 5 := by omega
      have hci := HC.out t (by omega)
      have hcell : wr.drew.cell? ⟨b, off + t, none⟩ = some (B8 (l.getD t 0)) := (hbe.cell (p := ⟨b, off + t, none⟩) hb).trans hci
      have hp1 := Rd.pc_lt l (t - 1)
      have hp2 : 256 ^ (t - 1) ≤ 256 ^ 4 := Nat.pow_le_pow_right (by omega) (by omega)
      have hnx : Rd.pc l (t + 1 - 1) = 256 * Rd.pc l (t - 1) + (l.getD t 0).toNat := by
        obtain ⟨j, rfl⟩ : ∃ j, t = j + 1 := ⟨t - 1, by omega⟩
        rfl
      have hcv := code_ref2 (Rd.pc l (t - 1)) (l.getD t 0).toNat (by omega) (l.getD t 0).toNat_lt
      rw [← hnx] at hcv
      have HNX := Lib.hid hnx
      generalize hbb : l.getD t 0 = bb at *
      generalize Rd.pc l (t - 1) = c0 at *
      generalize hCC : Rd.pc l (t + 1 - 1) = C at *
      have HCC := Lib.hid hCC
      have HCV := Lib.hid hcv
      have htl : t < L := by omega
      have htli : (t : Int) < (L : Int) := by omega
      clear hci hnx hcv hbb hCC hp1 hp2
      generalize hH : w.heap.size = hh at *
      have q1 : wr.drew.cell? ⟨b, off + t, none⟩ = some (B8 bb) := hcell
      have k2 : wr.drew.cell? ⟨hh, 2, none⟩ = some (.int .u64 (c0 : Nat)) := c52 hT2.blk
      have f2 : wr.drew.frozen? ⟨hh, 2, none⟩ = false := frozen_of_row wr.drew hh 2 _ _ hT2.blk
      have hT3a : RDecAt (wr.setCell ⟨hh, 2, none⟩ (.int .u64 (C : Nat))) hh b off c l C 4294967295 5 false := ⟨s52 hT2.blk _, bytes_set' hT2.own hT2.ne _, hT2.ne, by simpa using hT2.lt⟩
      have hT3 := hT3a.below (drew_below _)
      have hb3 : Below hh w (wr.setCell ⟨hh, 2, none⟩ (.int .u64 (C : Nat))).drew := (hbe.setCell (Nat.le_refl _) _).drew
      have hq : (wr.setCell ⟨hh, 2, none⟩ (.int .u64 (C : Nat))).drew.cell? ⟨b, off + t, none⟩ = some (B8 bb) := (World.cell?_setCell_far wr _ _ _ hT2.ne).trans hcell
      have HH := Lib.hid hH
      clear hT3a hcell hH
      go_upto_region 9 with (fail)
      refine wp_region_held_drew (S := fun w' => w'.cell? ⟨b, off + t, none⟩ = some (B8 bb)) (by kernel_rfl) q1 (fun hS => ?_)
      refine tk 0 (v := ?va1) ?ya1 hS ?_
      case ya1 =>
        intro w hSw
        go_simp; all_goals (with_reducible rfl)
      simp only [Act.put, List.setIfInBounds_toArray, List.set_cons_zero, List.set_cons_succ]
      refine tk 1 (v := ?va2) ?ya2 hS ?_
      case ya2 =>
        intro w hSw
        go_simp; all_goals (with_reducible rfl)
      simp only [Act.put, List.setIfInBounds_toArray, List.set_cons_zero, List.set_cons_succ]
      refine tk 2 (v := ?va3) ?ya3 hS ?_
      case ya3 =>
        intro w hSw
        go_simp; all_goals (with_reducible rfl)
      simp only [Act.put, List.setIfInBounds_toArray, List.set_cons_zero, List.set_cons_succ]
      refine tk 3 (v := ?va4) ?ya4 hS ?_
      case ya4 =>
        intro w hSw
        go_simp; all_goals (with_reducible rfl)
      simp only [Act.put, List.setIfInBounds_toArray, List.set_cons_zero, List.set_cons_succ]
      refine tk 6 (v := ?va5) ?ya5 hS ?_
      case ya5 =>
        intro w hSw
        go_simp; all_goals (with_reducible rfl)
      simp only [Act.put, List.setIfInBounds_toArray, List.set_cons_zero, List.set_cons_succ]
      refine tk 7 (v := ?va6) ?ya6 hS ?_
      case ya6 =>
        intro w hSw
        go_simp; all_goals (with_reducible rfl)
      simp only [Act.put, List.setIfInBounds_toArray, List.set_cons_zero, List.set_cons_succ]
      refine tk 8 (v := ?va7) ?ya7 hS ?_
      case ya7 =>
        intro w hSw
        go_simp; all_goals (with_reducible rfl)
      simp only [Act.put, List.setIfInBounds_toArray, List.set_cons_zero, List.set_cons_succ]
      refine tk 9 (v := ?va8) ?ya8 hS ?_
      case ya8 =>
        intro w hSw
        have j1 := hSw
        go_simp; all_goals (with_reducible rfl)
      simp only [Act.put, List.setIfInBounds_toArray, List.set_cons_zero, List.set_cons_succ]
      refine tk 10 (v := ?va9) ?ya9 hS ?_
      case ya9 =>
        intro w hSw
        go_simp; all_goals (with_reducible rfl)
      simp only [Act.put, List.setIfInBounds_toArray, List.set_cons_zero, List.set_cons_succ]
      refine wpAnyH_ready (rs := [4]) (by kernel_rfl) (by simp) ?_
      refine (AllReadyH.cons (o := { dst := some 24, op := Op.load 95 (Operand.tmp 23), type := 95, pos := "ref.go:25", after := #[{ on := 3, ground := Ground.data }], guard := none }) rfl (fun K hK => ?_) AllReadyH.nil)
      go_simp
      refine hK.out _ _ hS (fun _ => ?_)
      clear hK K
      refine tk 5 (v := ?va10) ?ya10 hS ?_
      case ya10 =>
        intro w hSw
        go_simp; all_goals (with_reducible rfl)
      simp only [Act.put, List.setIfInBounds_toArray, List.set_cons_zero, List.set_cons_succ]
      refine tk 11 (v := .int .u64 (C : Nat)) ?ya11 hS ?_
      case ya11 =>
        intro w hSw
        go_simp; rw [HCV.out]
      simp only [Act.put, List.setIfInBounds_toArray, List.set_cons_zero, List.set_cons_succ]
      refine tk 12 (v := ?va12) ?ya12 hS ?_
      case ya12 =>
        intro w hSw
        go_simp; all_goals (with_reducible rfl)
      simp only [Act.put, List.setIfInBounds_toArray, List.set_cons_zero, List.set_cons_succ]
      refine tk 13 (v := ?va13) ?ya13 hS ?_
      case ya13 =>
        intro w hSw
        go_simp; all_goals (with_reducible rfl)
      simp only [Act.put, List.setIfInBounds_toArray, List.set_cons_zero, List.set_cons_succ]
      refine wpAnyH_ready (rs := [14]) (by kernel_rfl) (by simp) ?_
      refine (AllReadyH.cons (o := { dst := none, op := Op.store 95 (Operand.tmp 33) (Operand.tmp 31), type := 0, pos := "ref.go:25", after := #[{ on := 13, ground := Ground.data }, { on := 11, ground := Ground.data }, { on := 0, ground := Ground.phase }, { on := 1, ground := Ground.phase }, { on := 2, ground := Ground.phase }, { on := 3, ground := Ground.phase }, { on := 4, ground := Ground.phase }, { on := 5, ground := Ground.phase }, { on := 6, ground := Ground.phase }, { on := 7, ground := Ground.phase }, { on := 8, ground := Ground.phase }, { on := 9, ground := Ground.phase }, { on := 10, ground := Ground.phase }, { on := 11, ground := Ground.phase }], guard := none }) rfl (fun K hK => ?_) AllReadyH.nil)
      go_simp
      refine hK.out _ _ hq (fun _ => ?_)
      clear hK K
      refine wpAnyH_done (by kernel_rfl) ?_ _
      generalize (wr.setCell ⟨hh, 2, none⟩ (.int .u64 (C : Nat))).drew = w5 at *
      clear k2 f2 q1 hq
      go_wp2_with fail
      go_roundw
      case rel => exact ⟨t + 1, by omega, by omega, congrArg (Value.int .i64) (by omega), by rw [HCC.out]; exact hT3, hb3⟩
      case measure => simp [intOf] <;> omega
    · obtain rfl : t = 5 := by omega
      go_wp2_with fail
      go_ret2
      refine ⟨w.heap.size, rfl, ⟨_, _, (fun _ => ⟨?_, rfl⟩), hT2⟩, hbe, Nat.le_refl _⟩
      exact Rd.pc_four l
end Go.Proofs.Ytkckjjchfccdjaa
