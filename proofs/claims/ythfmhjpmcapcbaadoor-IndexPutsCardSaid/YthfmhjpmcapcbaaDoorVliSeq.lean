/- The walk over vli's encoding: an iterator that writes its own variable. -/
import Derived.Test.YthfmhjpmcapcbaaDoorRangeOwn
import Derived.Test.YthfmhjpmcapcbaaDoorBase
import Derived.Test.YthfmhjpmcapcbaaDoorVliMath
import Derived.Shelf.Abstract
import Derived.Shelf.RegionOpen
import Derived.OwnWalkIn
import Derived.TacticsInMore
import Derived.LoopNIn
import Derived.LoopIn
import Derived.RangeFuncBox
namespace Go.Proofs.YthfmhjpmcapcbaaDoor
open Go.RowKit Go.Shelf
attribute [local go_sem] Oper.semAt_some

/-- What is left, as the iterator's variable says. -/
def leftIn (bn : Nat) (wr : World) : Nat := (intOf ((wr.cell? ⟨bn, 0, none⟩).getD undef)).toNat
theorem leftIn_eq {bn m : Nat} {wr : World} (h : wr.cell? ⟨bn, 0, none⟩ = some (.int .u64 (m : Nat))) : leftIn bn wr = m := by
  unfold leftIn; rw [h]; simp [intOf]

theorem or_byte (m : Nat) : bits .or .u8 ((m : Int) % 256) 128 = (((UInt8.ofNat (m % 128 + 128)).toNat : Nat) : Int) := by
  have h : m % 256 ||| 128 = m % 256 % 128 + 128 := Vl.or128 ⟨m % 256, Nat.mod_lt _ (by omega)⟩
  rw [show (m : Int) % 256 = ((m % 256 : Nat) : Int) by omega, show (128 : Int) = ((128 : Nat) : Int) from rfl, u8_or_nat _ _ (by omega) (by omega), h, UInt8.toNat_ofNat']
  omega
theorem low_byte (m : Nat) (h : m < 128) : B8 (UInt8.ofNat m) = .int .u8 (m : Nat) := by
  have e : (UInt8.ofNat m).toNat = m := by rw [UInt8.toNat_ofNat']; omega
  show Value.int .u8 _ = _
  rw [e]

set_option maxRecDepth 100000 in
set_option maxHeartbeats 1000000 in
theorem enc_seq (F : Fence) (n : Nat) (h11 : F.fn 33) (hro : F.round = none) (hn : 1 ≤ n) (bn nv : Nat) (w : World) (hb : bn < w.heap.size) (hc : w.cell? ⟨bn, 0, none⟩ = some (.int .u64 (nv : Nat))) (hf : w.frozen? ⟨bn, 0, none⟩ = false) (hv : nv < 128 ^ 10) (hv64 : nv < 18446744073709551616) :
    SeqOwn F n Tryd.prog 33 #[.pointer (some ⟨bn, 0, none⟩)] (fun x : UInt8 => #[B8 x]) bn (fun xs => xs = Vl.put 9 nv) 10 w := by
  intro l J W hW hJ hY h0
  have hcW := (hW.cell (p := ⟨bn, 0, none⟩) hb).trans hc
  have hfW := (hW.frozen (p := ⟨bn, 0, none⟩) hb).trans hf
  have HY := Lib.hid hY
  have HJ := Lib.hid hJ
  clear hY hJ hc hf
  refine callsIn_of_wp Tryd.func33 rfl h11 ?_ hro
  simp only [Tryd.ntmps33, List.size_toArray, List.length_cons, List.length_nil, Nat.reduceAdd, Nat.reduceSub, Array.replicate_succ, Array.replicate_zero, List.push_toArray, List.append_toArray, List.nil_append, List.cons_append]
  gi_wp2
  gi_loopw [4] (fun _ wr => ∃ (pre : List UInt8) (m f : Nat), Hid (Vl.put 9 nv = pre ++ Vl.put f m) ∧ Hid (m < 128 ^ (f + 1)) ∧ m < 18446744073709551616 ∧ pre.length + f = 9 ∧ wr.cell? ⟨bn, 0, none⟩ = some (.int .u64 (m : Nat)) ∧ wr.frozen? ⟨bn, 0, none⟩ = false ∧ J pre wr) (fun _ wr => leftIn bn wr)
  case atStart => exact ⟨[], nv, 9, rfl, hv, hv64, rfl, hcW, hfW, h0⟩
  case round =>
    obtain ⟨pre, m, f, hput, hm, hm64, hlen, hcm, hfm, hJs⟩ := hrel
    clear hcW hfW
    have hleft := Lib.hid (leftIn_eq hcm)
    by_cases hlt : m < 128
    · have hlt' : ¬ (128 : Int) ≤ (m : Int) := by omega
      obtain ⟨fn, tmps, assign, body, hy, hR⟩ := HY.out pre (UInt8.ofNat m) wr hJs (by omega)
      rw [low_byte m hlt] at hy
      have HPUT := Lib.hid (Vl.put_small (f := f) hlt)
      generalize UInt8.ofNat m = X at *
      gi_wp2
      refine hR.mono ?_
      rintro e W3 ⟨rfl, hJ3, hk3⟩
      gi_wp2
      go_end0
      exact ⟨⟨_, rfl⟩, pre ++ [X], by rw [hput.out, HPUT.out], hJ3⟩
    · have hlt' : (128 : Int) ≤ (m : Int) := by omega
      cases f with
      | zero => have := hm.out; simp at this; omega
      | succ f =>
        obtain ⟨fn, tmps, assign, body, hy, hR⟩ := HY.out pre (UInt8.ofNat (m % 128 + 128)) wr hJs (by omega)
        have hor := or_byte m
        have HPUT := Lib.hid (Vl.put_big (f := f) hlt)
        have hq : (m : Int) / 128 = ((m / 128 : Nat) : Int) := by omega
        have hm2 : m / 128 < 128 ^ (f + 1) := by
          have := hm.out
          rw [Nat.pow_succ] at this
          rw [Nat.div_lt_iff_lt_mul (by omega)]; exact this
        have hm3 : m / 128 < m := by omega
        have hm4 : m / 128 < 18446744073709551616 := by omega
        change Sem.run _ (Instr.yield l #[Value.int .u8 (((UInt8.ofNat (m % 128 + 128)).toNat : Nat) : Int)]) wr = _ at hy
        generalize (UInt8.ofNat (m % 128 + 128)).toNat = xn at hy hor
        generalize UInt8.ofNat (m % 128 + 128) = X at *
        generalize m / 128 = m2 at *
        have HM2 := Lib.hid hm2
        clear hm2 hm
        gi_wp2
        refine hR.mono ?_
        rintro e W3 ⟨rfl, hJ3, hk3⟩
        have hc3 : W3.cell? ⟨bn, 0, none⟩ = some (.int .u64 (m : Nat)) := hk3.1.trans hcm
        have hf3 : W3.frozen? ⟨bn, 0, none⟩ = false := hk3.2.trans hfm
        have hc4 : (W3.setCell ⟨bn, 0, none⟩ (.int .u64 (m2 : Nat))).cell? ⟨bn, 0, none⟩ = some (.int .u64 (m2 : Nat)) := World.cell?_setCell_same' _ _ _ (by rw [hc3]; rfl)
        have hf4 : (W3.setCell ⟨bn, 0, none⟩ (.int .u64 (m2 : Nat))).frozen? ⟨bn, 0, none⟩ = false := by rw [World.frozen?_setCell]; exact hf3
        have hJ4 := HJ.out (pre ++ [X]) W3 (.int .u64 (m2 : Nat)) hJ3
        have HL4 := Lib.hid (leftIn_eq hc4)
        gi_wp2
        go_roundw
        case rel => exact ⟨pre ++ [X], m2, f, by show Vl.put 9 nv = _; rw [hput.out, HPUT.out]; simp, HM2.out, hm4, by simp; omega, hc4, hf4, hJ4⟩
        case measure => rw [HL4.out, hleft.out]; exact hm3
end Go.Proofs.YthfmhjpmcapcbaaDoor
