/- What crc32.makeTables returns: the four tables, entry by entry, and that it leaves older memory alone. -/
import Derived.Test.YtaggkcgeddoogaaDoorCrcWalk
import Derived.Deep.OwnRows
import Derived.Deep.WholeRow
import Derived.Deep.MidRow
import Derived.Laws.CopyOwn
namespace Go.Proofs.YtaggkcgeddoogaaDoor.C3
open Go.RowKit
def zero34 : Array Value := Array.replicate 1024 (.int .u32 0)
theorem info34 : (Tryd.prog.info? 113).map (fun i => (i.zero, i.size)) = some (some (.agg zero34), 1024) := by kernel_rfl
theorem info32 : (Tryd.prog.info? 111).map (·.size) = some 256 := by kernel_rfl

/-- The tables' entries, by their flat place. -/
def T (j : Nat) : BitVec 32 := Crc.sn P32 (8 * (j / 256 + 1)) (BitVec.ofNat 32 (j % 256))
def tabs : Array Value := ((List.range 1024).map fun i => Value.int .u32 (T i).toNat).toArray
theorem zsize34 : (Tryd.prog.info? 113).map (·.size) = some 1024 := by kernel_rfl
def upTo (k j : Nat) : Value := if j < k then .int .u32 (T j).toNat else .int .u32 0

theorem enterBits_nat (n : Nat) (hn : n < 4294967296) (w : World) :
    Calls Tryd.prog 82 #[.int .u32 n] w fun e w' => e = .returned (.int .u32 (Crc.sn P32 8 (BitVec.ofNat 32 n)).toNat) ∧ w = w' := by
  have h := enterBits_any (BitVec.ofNat 32 n) w
  have e : (BitVec.ofNat 32 n).toNat = n := by simp; omega
  rwa [e] at h

theorem upTo_set (k : Nat) : ∀ i, (if i = k then Value.int .u32 (T k).toNat else upTo k i) = upTo (k + 1) i := by
  intro i; unfold upTo
  by_cases h : i = k
  · subst h; simp
  · by_cases h2 : i < k
    · simp [h, h2, show i < k + 1 by omega]
    · simp [h, h2, show ¬ i < k + 1 by omega]

theorem T_low (k : Nat) (h : k < 256) : T k = Crc.sn P32 8 (BitVec.ofNat 32 k) := by
  unfold T; rw [Nat.div_eq_of_lt h, Nat.mod_eq_of_lt h]

def seg (k : Nat) : List Value := (List.range 256).map fun i => upTo (256 * k) (256 * (k - 1) + i)
theorem seg_range {w : World} {g k : Nat} (r : w.rowIs g 113 1024 (upTo (256 * k))) (h1 : 1 ≤ k) (h : k < 4) : w.rangeAt g ((k - 1) * 256) (seg k) := by
  intro j v hv
  unfold seg at hv
  rw [List.getElem?_map] at hv
  by_cases hj : j < 256
  · rw [List.getElem?_range hj] at hv
    simp at hv; subst hv
    rw [Nat.mul_comm (k - 1) 256]; exact r.cell (by omega)
  · rw [List.getElem?_eq_none (by simp; omega)] at hv; simp at hv

theorem upTo_yes {k j : Nat} (h : j < k) : upTo k j = .int .u32 (T j).toNat := by unfold upTo; rw [if_pos h]
theorem seg_index (k j : Nat) (hj : j < 256) (hk : 1 ≤ k) (w : World) : (Instr.index 111 (.agg (seg k).toArray) (.int .i64 j)).run Tryd.prog w = .ok (.int .u32 (T (256 * (k - 1) + j)).toNat) w := by
  have hs : (Tryd.prog.info? 23).map (·.size) = some 1 := by kernel_rfl
  have hg : (seg k)[j]? = some (.int .u32 (T (256 * (k - 1) + j)).toNat) := by
    unfold seg; rw [List.getElem?_map, List.getElem?_range hj]; simp [upTo_yes (show 256 * (k - 1) + j < 256 * k by omega)]
  cases hq : Tryd.prog.info? 23 with
  | none => rw [hq] at hs; simp at hs
  | some i =>
    have hsz : i.size = 1 := by rw [hq] at hs; simpa using hs
    simp [Instr.index, asIntOf, run_underlying Tryd.underlying111, Sem.run_bind, sizeOf, typeInfo, hq, hsz, part, hg, hj]
theorem byte_of (v : BitVec 32) : ∃ m : Nat, m < 256 ∧ m = v.toNat % 256 ∧ IntKind.u8.wrap (v.toNat : Int) = (m : Int) :=
  ⟨v.toNat % 256, Nat.mod_lt _ (by omega), rfl, by rw [IntKind.wrap_u8']; omega⟩
theorem T_next (k j : Nat) (hk : 1 ≤ k) : T (256 * k + j) = (T (256 * (k - 1) + j) >>> 8) ^^^ T ((T (256 * (k - 1) + j)).toNat % 256) := by
  have e1 : T (256 * k + j) = Crc.sn P32 8 (T (256 * (k - 1) + j)) := by
    unfold T
    rw [← Crc.sn_add, show (256 * (k - 1) + j) % 256 = (256 * k + j) % 256 by omega]
    congr 1; omega
  generalize T (256 * (k - 1) + j) = v at *
  rw [e1, Crc.sn_byte, T_low _ (Nat.mod_lt _ (by omega))]
  congr 2
  unfold Crc.low
  apply BitVec.eq_of_toNat_eq
  simp only [BitVec.toNat_setWidth, BitVec.toNat_ofNat]

theorem row_new (w : World) : (w.alloc (.cells zero34 113)).rowIs w.heap.size 113 1024 (upTo 0) := by
  have h := World.rowIs_alloc w zero34 113 (upTo 0) (fun i hi => by
    unfold zero34 at hi ⊢
    rw [Array.getElem?_replicate, if_pos (by simpa using hi)]; simp [upTo])
  have e : zero34.size = 1024 := by simp [zero34]
  rwa [e] at h
theorem tabs_eq {cs : Array Value} (hn : cs.size = 1024) (hv : ∀ i, i < 1024 → cs[i]? = some (upTo (256 * 4) i)) : cs = tabs := by
  apply Array.ext_getElem?
  intro i
  by_cases hi : i < 1024
  · rw [hv i hi, upTo_yes (by omega)]
    unfold tabs
    rw [List.getElem?_toArray, List.getElem?_map, List.getElem?_range hi]; rfl
  · rw [Array.getElem?_eq_none (by omega), Array.getElem?_eq_none (by simp [tabs]; omega)]
theorem ints_one {cs : Array Value} (hn : cs.size = 1024) (hv : ∀ i, i < 1024 → cs[i]? = some (upTo (256 * 4) i)) : cs.all (·.oneCell') = true := by
  rw [tabs_eq hn hv]
  unfold tabs
  rw [List.all_toArray, List.all_map, List.all_eq_true]
  intro x _; rfl

set_option maxRecDepth 100000 in
set_option maxHeartbeats 400000 in
theorem mk_any (w : World) :
    Calls Tryd.prog 75 #[] w fun e w' => e = .returned (.agg tabs) ∧ Below w.heap.size w w' := by
  have hz := (zero_of_info info34).1
  go_enter Tryd.func75, Tryd.ntmps75
  go_wp2_with fail
  have h0 : ((w.alloc (.cells zero34 113)).alloc (.cells zero34 113)).rowIs w.heap.size 113 1024 (upTo 0) := (row_new w).alloc _
  have h1 : ((w.alloc (.cells zero34 113)).alloc (.cells zero34 113)).rowIs (w.heap.size + 1) 113 1024 (upTo 0) := by have := row_new (w.alloc (.cells zero34 113)); simpa using this
  have hb : Below w.heap.size w ((w.alloc (.cells zero34 113)).alloc (.cells zero34 113)) := ((Below.refl _ _).alloc (Nat.le_refl _) _).alloc (by simp) _
  generalize (w.alloc (.cells zero34 113)).alloc (.cells zero34 113) = w1 at *
  generalize hg : w.heap.size + 1 = g at *
  have hg1 : w.heap.size < g := by omega
  have HG := Lib.hid hg; clear hg
  go_loopw [6] (fun i wr => ∃ k : Nat, k ≤ 256 ∧ i = .int .i64 k ∧ wr.rowIs w.heap.size 113 1024 (upTo 0) ∧ wr.rowIs g 113 1024 (upTo k) ∧ Below w.heap.size w wr) (fun i _ => 256 - (intOf i).toNat)
  case atStart => exact ⟨0, by omega, rfl, h0, h1, hb⟩
  case round =>
    obtain ⟨k, hk, rfl, r0, r1, rb⟩ := hrel
    by_cases h : k < 256
    · have hc := r1.cell (i := k) (by omega)
      have hf := r1.frozen k
      go_wp2_with fail
      refine (enterBits_nat k (by omega) _).mono ?_
      rintro e w' ⟨rfl, rfl⟩
      go_wp2_with fail
      go_roundw
      case rel =>
        refine ⟨k + 1, by omega, by go_num, r0.setOther (by simp; omega) _, ?_, rb.setCell (by simp; omega) _⟩
        refine (r1.set k _).congr fun i _ => ?_
        rw [← T_low k h]; exact upTo_set k i
      case measure => simp [intOf]; omega
    · obtain rfl : k = 256 := by omega
      go_wp2_with fail
      clear h0 h1 hb hk h
      go_loopw [3] (fun i wr => ∃ k : Nat, 1 ≤ k ∧ k ≤ 4 ∧ i = .int .i64 k ∧ wr.rowIs w.heap.size 113 1024 (upTo 0) ∧ wr.rowIs g 113 1024 (upTo (256 * k)) ∧ Below w.heap.size w wr) (fun i _ => 4 - (intOf i).toNat)
      case atStart => exact ⟨1, by omega, by omega, rfl, r0, r1, rb⟩
      case round =>
        obtain ⟨k, hk1, hk, rfl, r0, r1, rb⟩ := hrel
        by_cases h : k < 4
        · have hseg := seg_range r1 hk1 h
          go_wp2_with (refine wpList_load_mid rfl 111 _ rfl g ((k - 1) * 256) rfl (seg k) _ hseg Tryd.underlying111 rfl ?c0 ?_)
          case c0 => rw [info32]; simp [seg]
          clear hseg
          obtain ⟨wo, rfl⟩ : ∃ wo : World, wo = wr := ⟨_, rfl⟩
          go_loopw [24] (fun i wr => ∃ j : Nat, j ≤ 256 ∧ i = .int .i64 j ∧ wr.rowIs w.heap.size 113 1024 (upTo 0) ∧ wr.rowIs g 113 1024 (upTo (256 * k + j)) ∧ Below w.heap.size w wr) (fun i _ => 256 - (intOf i).toNat)
          case atStart => exact ⟨0, by omega, rfl, r0, r1, rb⟩
          case round =>
            clear r0 r1 rb
            obtain ⟨j, hj, rfl, r0, r1, rb⟩ := hrel
            by_cases hlt : j < 256
            · have hix := seg_index k j hlt hk1
              have hm := byte_of (T (256 * (k - 1) + j))
              have hT := Lib.hid (T_next k j hk1)
              generalize T (256 * (k - 1) + j) = v at *
              obtain ⟨m, hm256, hmv, hmw⟩ := hm
              have hc1 := r1.cell (i := m) (by omega)
              have hc2 := r1.cell (i := k * 256 + j) (by omega)
              have hf := r1.frozen (k * 256 + j)
              rw [upTo_yes (by omega)] at hc1
              have Hmv := Lib.hid hmv; clear hmv
              go_wp2_with fail
              go_region
              all_goals
                go_wp2_with fail
                go_roundw
                case rel =>
                  refine ⟨j + 1, by omega, by go_num, r0.drew.setOther (by simp; omega) _, ?_, rb.drew.setCell (by simp; omega) _⟩
                  refine (r1.drew.set _ _).congr fun i _ => ?_
                  have e : (v.toNat : Int) / (256 : Int) = ((v >>> 8).toNat : Int) := by
                    rw [BitVec.toNat_ushiftRight, Nat.shiftRight_eq_div_pow]; simp
                  rw [← Nat.add_assoc, ← upTo_set, hT.out, ← Hmv.out, e, bx32, Nat.mul_comm k 256]
                case measure => simp [intOf]; omega
            · obtain rfl : j = 256 := by omega
              go_wp2_with fail
              go_roundw
              case rel =>
                (repeat apply Exists.intro)
                exact ⟨⟨k + 1, by omega, by omega, by go_num, r0, by rw [Nat.mul_add]; exact r1, rb⟩, rfl⟩
              case measure => simp [intOf]; omega
        · obtain rfl : k = 4 := by omega
          obtain ⟨cs, hcs, hn, hv⟩ := r1
          obtain ⟨os, hos, hno, hvo⟩ := r0
          go_wp2_with (first | (refine wpList_load_row rfl 113 _ rfl g rfl 113 cs _ _ hcs Tryd.underlying113 rfl ?c1 ?_) | (refine wpList_store_row rfl 113 _ _ rfl w.heap.size cs rfl rfl 113 os hos ?c2 ?c3 ?c4 ?_))
          case c1 => rw [zsize34, hn]
          case c2 => rw [zsize34, hn]
          case c3 => rw [hno, hn]
          case c4 => exact ints_one hn hv
          refine bodyPost_ret (results_cell_row rfl _ _ w.heap.size 113 cs _ _ rfl (setRow_heap _ _ _ _ _ _ hos) Tryd.underlying113 rfl (by rw [zsize34, hn])) rfl ?_
          refine ⟨?_, ?_⟩
          · rw [tabs_eq hn hv]
          · have hlt : w.heap.size ≤ w.heap.size := Nat.le_refl _
            exact below_setRow rb hlt _
end Go.Proofs.YtaggkcgeddoogaaDoor.C3
