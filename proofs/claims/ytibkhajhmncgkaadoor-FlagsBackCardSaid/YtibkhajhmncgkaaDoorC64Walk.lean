/- The walks over the CRC-64 functions and the reference's, in the words of the plain mathematics. -/
import Derived.Test.YtibkhajhmncgkaaDoorCrcMath
import Derived.Test.YtibkhajhmncgkaaDoorBase
namespace Go.Proofs.YtibkhajhmncgkaaDoor.C64
open Go.RowKit

def P64 : BitVec 64 := 14514072000185962306#64

theorem bx64 (a b : BitVec 64) : bits .xor .u64 (a.toNat : Int) (b.toNat : Int) = ((a ^^^ b).toNat : Int) := by
  rw [u64_xor_nat _ _ a.isLt b.isLt, BitVec.toNat_xor]
theorem bit0 (a : BitVec 64) : bits .and .u64 (a.toNat : Int) 1 = ((a.toNat % 2 : Nat) : Int) := by
  rw [show (1 : Int) = ((1 : Nat) : Int) from rfl, u64_and_nat _ _ a.isLt (by omega), nat_mask1]
theorem lsb0 (a : BitVec 64) : a.getLsbD 0 = decide (a.toNat % 2 = 1) := by
  rw [BitVec.getLsbD, Nat.testBit_zero]
theorem shr1 (a : BitVec 64) : (a.toNat : Int) / (2 : Int) = ((a >>> 1).toNat : Int) := by
  rw [BitVec.toNat_ushiftRight, Nat.shiftRight_eq_div_pow]; simp
theorem s1_yes (x : BitVec 64) (h : (bits .and .u64 (x.toNat : Int) 1 == 1) = true) : bits .xor .u64 ((x.toNat : Int) / 2) 14514072000185962306 = ((Crc.s1 P64 x).toNat : Int) := by
  have h1 : x.getLsbD 0 = true := by
    rw [bit0] at h; rw [lsb0]; simp at h ⊢; omega
  rw [shr1, show (14514072000185962306 : Int) = ((P64.toNat : Nat) : Int) from rfl, bx64]
  unfold Crc.s1; rw [h1]; simp
theorem s1_no (x : BitVec 64) (h : (bits .and .u64 (x.toNat : Int) 1 == 1) = false) : (x.toNat : Int) / 2 = ((Crc.s1 P64 x).toNat : Int) := by
  have h1 : x.getLsbD 0 = false := by
    rw [bit0] at h; rw [lsb0]; simp at h ⊢; omega
  rw [shr1]
  unfold Crc.s1; rw [h1]; simp

def zeroT : Array Value := Array.replicate 256 (.int .u64 0)
theorem infoT : (Tryd.prog.info? 80).map (fun i => (i.zero, i.size)) = some (some (.agg zeroT), 256) := by kernel_rfl
theorem zsizeT : (Tryd.prog.info? 80).map (·.size) = some 256 := by kernel_rfl

/-- The table's entries. -/
def T (j : Nat) : BitVec 64 := Crc.sn P64 8 (BitVec.ofNat 64 j)
def upTo (k j : Nat) : Value := if j < k then .int .u64 (T j).toNat else .int .u64 0
def tabs : Array Value := ((List.range 256).map fun i => Value.int .u64 (T i).toNat).toArray
theorem upTo_yes {k j : Nat} (h : j < k) : upTo k j = .int .u64 (T j).toNat := by unfold upTo; rw [if_pos h]
theorem upTo_set (k : Nat) : ∀ i, (if i = k then Value.int .u64 (T k).toNat else upTo k i) = upTo (k + 1) i := by
  intro i; unfold upTo
  by_cases h : i = k
  · subst h; simp
  · by_cases h2 : i < k
    · simp [h, h2, show i < k + 1 by omega]
    · simp [h, h2, show ¬ i < k + 1 by omega]
theorem row_new (w : World) : (w.alloc (.cells zeroT 80)).rowIs w.heap.size 80 256 (upTo 0) := by
  have h := World.rowIs_alloc w zeroT 80 (upTo 0) (fun i hi => by
    unfold zeroT at hi ⊢
    rw [Array.getElem?_replicate, if_pos (by simpa using hi)]; simp [upTo])
  have e : zeroT.size = 256 := by simp [zeroT]
  rwa [e] at h
theorem tabs_eq {cs : Array Value} (hn : cs.size = 256) (hv : ∀ i, i < 256 → cs[i]? = some (upTo 256 i)) : cs = tabs := by
  apply Array.ext_getElem?
  intro i
  by_cases hi : i < 256
  · rw [hv i hi, upTo_yes (by omega)]
    unfold tabs
    rw [List.getElem?_toArray, List.getElem?_map, List.getElem?_range hi]; rfl
  · rw [Array.getElem?_eq_none (by omega), Array.getElem?_eq_none (by simp [tabs]; omega)]
theorem tabs_one : tabs.all (·.oneCell') = true := by
  unfold tabs
  rw [List.all_toArray, List.all_map, List.all_eq_true]
  intro x _; rfl
theorem tabs_size : tabs.size = 256 := by simp [tabs]
theorem tabs_cell {w : World} {g : Nat} {t : TypeId} {fr : Nat × Nat} (h : w.heap[g]? = some (.cells tabs t fr)) (i : Nat) (hi : i < 256) : w.cell? ⟨g, i, none⟩ = some (.int .u64 (T i).toNat) := by
  rw [cell_of_row w g i tabs t fr h]
  unfold tabs
  rw [List.getElem?_toArray, List.getElem?_map, List.getElem?_range hi]; rfl
theorem ofNat_nat (k : Nat) (h : k < 256) : (k : Int) = ((BitVec.ofNat 64 k).toNat : Int) := by
  rw [BitVec.toNat_ofNat]; omega

set_option maxRecDepth 100000 in
set_option maxHeartbeats 400000 in
theorem mk_any (w : World) :
    Calls Tryd.prog 58 #[] w fun e w' => e = .returned (.agg tabs) ∧ Below w.heap.size w w' := by
  have hz := (zero_of_info infoT).1
  go_enter Tryd.func58, Tryd.ntmps58
  go_wp2_with fail
  have h0 : ((w.alloc (.cells zeroT 80)).alloc (.cells zeroT 80)).rowIs w.heap.size 80 256 (upTo 0) := (row_new w).alloc _
  have h1 : ((w.alloc (.cells zeroT 80)).alloc (.cells zeroT 80)).rowIs (w.heap.size + 1) 80 256 (upTo 0) := by have := row_new (w.alloc (.cells zeroT 80)); simpa using this
  have hb : Below w.heap.size w ((w.alloc (.cells zeroT 80)).alloc (.cells zeroT 80)) := ((Below.refl _ _).alloc (Nat.le_refl _) _).alloc (by simp) _
  generalize (w.alloc (.cells zeroT 80)).alloc (.cells zeroT 80) = w1 at *
  generalize hg : w.heap.size + 1 = g at *
  have hg1 : w.heap.size < g := by omega
  have HG := Lib.hid hg; clear hg
  go_loopw [5] (fun i wr => ∃ k : Nat, k ≤ 256 ∧ i = .int .i64 k ∧ wr.rowIs w.heap.size 80 256 (upTo 0) ∧ wr.rowIs g 80 256 (upTo k) ∧ Below w.heap.size w wr) (fun i _ => 256 - (intOf i).toNat)
  case atStart => exact ⟨0, by omega, rfl, h0, h1, hb⟩
  case round =>
    obtain ⟨k, hk, rfl, r0, r1, rb⟩ := hrel
    by_cases h : k < 256
    · have hc := r1.cell (i := k) (by omega)
      have hf := r1.frozen k
      go_wp2_with fail
      obtain ⟨wo, rfl⟩ : ∃ wo : World, wo = wr := ⟨_, rfl⟩
      go_loop [3, 10] (fun a i => ∃ j : Nat, j ≤ 8 ∧ i = .int .i64 j ∧ a = .int .u64 (Crc.sn P64 j (BitVec.ofNat 64 k)).toNat) (fun _ i => 8 - (intOf i).toNat)
      case atStart => exact ⟨0, by omega, rfl, by rw [ofNat_nat k h]; rfl⟩
      case round =>
        obtain ⟨j, hj, rfl, rfl⟩ := hrel
        by_cases h8 : j < 8
        · have hs := Lib.hid (Crc.sn_succ' P64 j (BitVec.ofNat 64 k))
          generalize Crc.sn P64 j (BitVec.ofNat 64 k) = x at *
          go_wp2_with fail
          · go_round
            case rel => exact ⟨j + 1, by omega, by go_num, by rw [hs.out, ← s1_yes x (by assumption)]⟩
            case measure => simp [intOf]; omega
          · go_round
            case rel => exact ⟨j + 1, by omega, by go_num, by rw [hs.out, ← s1_no x (by assumption)]⟩
            case measure => simp [intOf]; omega
        · obtain rfl : j = 8 := by omega
          go_wp2_with fail
          go_roundw
          case rel =>
            refine ⟨k + 1, by omega, by go_num, r0.setOther (by simp; omega) _, ?_, rb.setCell (by simp; omega) _⟩
            exact (r1.set k _).congr fun i _ => upTo_set k i
          case measure => simp [intOf]; omega
    · obtain rfl : k = 256 := by omega
      obtain ⟨cs, hcs, hn, hv⟩ := r1
      obtain ⟨os, hos, hno, hvo⟩ := r0
      obtain rfl := tabs_eq hn hv
      go_wp2_with (first | (refine wpList_load_row rfl 80 _ rfl g rfl 80 tabs _ _ hcs Tryd.underlying80 rfl ?c1 ?_) | (refine wpList_store_row rfl 80 _ _ rfl w.heap.size tabs rfl rfl 80 os hos ?c2 ?c3 ?c4 ?_))
      case c1 => rw [zsizeT, hn]
      case c2 => rw [zsizeT, hn]
      case c3 => rw [hno, hn]
      case c4 => exact tabs_one
      refine bodyPost_ret (results_cell_row rfl _ _ w.heap.size 80 tabs _ _ rfl (setRow_heap _ _ _ _ _ _ hos) Tryd.underlying80 rfl (by rw [zsizeT, hn])) rfl ?_
      exact ⟨rfl, below_setRow rb (Nat.le_refl _) _⟩

theorem bnot64 (a : BitVec 64) : bits .xor .u64 IntKind.u64.max (a.toNat : Int) = ((~~~a).toNat : Int) := by
  rw [show IntKind.u64.max = (((BitVec.allOnes 64).toNat : Nat) : Int) from rfl, bx64, BitVec.allOnes_xor]

structure Tabled (w0 : World) (g : Nat) (w : World) : Prop where
  tab : ∀ i, i < 256 → w.cell? ⟨g, i, none⟩ = some (.int .u64 (T i).toNat)
  below : Below w0.heap.size w0 w

theorem ext_nat (b : UInt8) : (Crc.ext 64 b).toNat = b.toNat := by
  have := b.toNat_lt
  unfold Crc.ext; simp only [BitVec.toNat_setWidth, UInt8.toNat_toBitVec]; omega

theorem eat_byte (x : BitVec 64) (v : UInt8) (m : Nat) (hm : m = (x.toNat % 256) ^^^ v.toNat) : bits .xor .u64 ((x.toNat : Int) / 256) ((T m).toNat : Int) = ((Crc.eat P64 x v).toNat : Int) := by
  have e : (x.toNat : Int) / (256 : Int) = ((x >>> 8).toNat : Int) := by
    rw [BitVec.toNat_ushiftRight, Nat.shiftRight_eq_div_pow]; simp
  have hl : Crc.low (x ^^^ Crc.ext 64 v) = BitVec.ofNat 64 m := by
    unfold Crc.low
    apply BitVec.eq_of_toNat_eq
    have hv := v.toNat_lt
    simp only [BitVec.toNat_setWidth, BitVec.toNat_ofNat, BitVec.toNat_xor, ext_nat]
    rw [Nat.xor_mod_two_pow (n := 8), hm, Nat.mod_eq_of_lt (show v.toNat < 2 ^ 8 by omega)]
  have hs : (x ^^^ Crc.ext 64 v) >>> 8 = x >>> 8 := by
    apply BitVec.eq_of_getLsbD_eq
    intro i _
    rw [BitVec.getLsbD_ushiftRight, BitVec.getLsbD_ushiftRight, BitVec.getLsbD_xor, Crc.ext_bit 64 v _ (by omega)]; simp
  rw [e, bx64]
  unfold Crc.eat
  rw [Crc.sn_byte, hs, hl]; rfl
theorem byte_xor (x : BitVec 64) (v : UInt8) : ∃ m : Nat, m < 256 ∧ m = (x.toNat % 256) ^^^ v.toNat ∧ bits .xor .u8 ((x.toNat : Int) % 256) (v.toNat : Int) = (m : Int) := by
  have hv := v.toNat_lt
  refine ⟨_, Nat.xor_lt_two_pow (n := 8) (show x.toNat % 256 < 2 ^ 8 by omega) (show v.toNat < 2 ^ 8 by omega), rfl, ?_⟩
  rw [show (x.toNat : Int) % 256 = ((x.toNat % 256 : Nat) : Int) from by omega, u8_xor_nat _ _ (by omega) (by omega)]
theorem eats_snoc (x : BitVec 64) (l : List UInt8) (k : Nat) (h : k < l.length) : Crc.eats P64 x (l.take (k + 1)) = Crc.eat P64 (Crc.eats P64 x (l.take k)) l[k] := by
  rw [List.take_succ_eq_append_getElem h, Crc.eats_append]; rfl
/-- The checksum of bytes whose checksum is s, followed by l. -/
def crcOf (s : BitVec 64) (l : List UInt8) : BitVec 64 := ~~~ Crc.eats P64 (~~~ s) l

set_option maxRecDepth 100000 in
set_option maxHeartbeats 1000000 in
theorem on_any (s : BitVec 64) (A : Option Addr) (l : List UInt8) (c : Nat) (w : World) (hB : Bytes w A l) (hc : l.length ≤ c) (hm : c ≤ 9223372036854775807) :
    Calls Tryd.prog 48 #[.int .u64 s.toNat, .slice A l.length c] w fun e w' =>
      e = .returned (.int .u64 (crcOf s l).toNat) ∧ Below w.heap.size w w' := by
  have hz := (zero_of_info infoT).1
  go_enter Tryd.func48, Tryd.ntmps48
  go_wp2_with fail
  refine (mk_any w).mono ?_
  rintro e w1 ⟨rfl, hb1⟩
  go_wp2_with (refine wpList_store_row rfl 80 _ _ rfl w1.heap.size tabs rfl rfl 80 zeroT (heap_alloc_last _ _) ?c2 ?c3 ?c4 ?_)
  case c2 => rw [zsizeT, tabs_size]
  case c3 => rw [tabs_size]; simp [zeroT]
  case c4 => exact tabs_one
  rw [World.setRow_alloc_new, bnot64]
  have hT : Tabled w w1.heap.size (w1.alloc (.cells tabs 80)) := ⟨tabs_cell (heap_alloc_last _ _), hb1.alloc hb1.size _⟩
  have hB1 := hB.below hT.below
  generalize w1.alloc (.cells tabs 80) = w2 at *
  generalize w1.heap.size = g at *
  clear hb1 hz hB
  generalize hx0 : ~~~s = x0
  have HX0 := Lib.hid hx0; clear hx0
  go_loop [6, 14] (fun reg i => ∃ k : Nat, k ≤ l.length ∧ i = .int .i64 k ∧ reg = .int .u64 (Crc.eats P64 x0 (l.take k)).toNat) (fun _ i => l.length - (intOf i).toNat)
  case atStart => exact ⟨0, by omega, rfl, by simp [Crc.eats]⟩
  case round =>
    obtain ⟨k, hk, rfl, rfl⟩ := hrel
    by_cases hlt : k < l.length
    · obtain ⟨b, off, rfl, _, hcell⟩ := hB1.addr (by omega)
      have hck := hcell k hlt
      have hs := Lib.hid (eats_snoc x0 l k hlt)
      generalize Crc.eats P64 x0 (l.take k) = y at *
      obtain ⟨m, hm256, hmv, hmw⟩ := byte_xor y l[k]
      have hct := hT.tab m (by omega)
      have Hmv := Lib.hid hmv; clear hmv
      have i0 : (m : Int) < 256 := by omega
      generalize l[k] = v at *
      clear hcell
      go_wp2_with fail
      go_round
      case rel => exact ⟨k + 1, by omega, by go_num, by rw [hs.out, ← eat_byte y v m Hmv.out]⟩
      case measure => simp [intOf]; omega
    · obtain rfl : k = l.length := by omega
      go_wp2_with fail
      go_ret
      have hnum : bits .xor .u64 IntKind.u64.max ((Crc.eats P64 x0 l).toNat : Int) = ((crcOf s l).toNat : Int) := by rw [bnot64, ← HX0.out]; rfl
      exact ⟨congrArg (fun n : Int => Ending.returned (Value.int .u64 n)) hnum, hT.below⟩
end Go.Proofs.YtibkhajhmncgkaaDoor.C64
