/- Digests: the document's example, two that are compared, sha256.Sum, a hash that is nil. -/
import Derived.Test.YtibkhajhmncgkaaDoorShaSumW
import Derived.ChangeKeysEq
import Derived.Laws.NewBlocks
namespace Go.Proofs.YtibkhajhmncgkaaDoor
open Go.RowKit

set_option maxRecDepth 100000 in
theorem abc_digest : (St.new.puts [97, 98, 99]).digest = [0xBA, 0x78, 0x16, 0xBF, 0x8F, 0x01, 0xCF, 0xEA, 0x41, 0x41, 0x40, 0xDE, 0x5D, 0xAE, 0x22, 0x23, 0xB0, 0x03, 0x61, 0xA3, 0x96, 0x17, 0x7A, 0x9C, 0xB4, 0x10, 0xFF, 0x61, 0xF2, 0x00, 0x15, 0xAD] := by decide +kernel

theorem items_same (d : Nat) (l : List UInt8) (w : World) : ∀ is : List Nat, (∀ i ∈ is, i < l.length) → (Op.eqItems (d + 1) 5 1 (l.map B8).toArray (l.map B8).toArray is).run Tryd.prog w = .ok true w
  | [], _ => rfl
  | i :: is, h => by
    have hi : i < l.length := h i (by simp)
    have hx : (l.map B8).toArray[i * 1]? = some (B8 l[i]) := by
      rw [Nat.mul_one, List.getElem?_toArray, List.getElem?_map, List.getElem?_eq_getElem hi]; rfl
    have hp := run_part_plain (P := Tryd.prog) w (e := 5) (by kernel_rfl) hx
    have he := run_equalIn_int (P := Tryd.prog) w d 5 .u8 .u8 l[i].toNat l[i].toNat Tryd.underlying5
    have ih := items_same d l w is (fun j hj => h j (by simp [hj]))
    simp only [Op.eqItems, Sem.run_bind, hp, Result.andThen_ok, he]
    simpa using ih
theorem equal_same (l : List UInt8) (hl : l.length = 32) (w : World) : (Op.equal 58 (.agg (l.map B8).toArray) (.agg (l.map B8).toArray)).run Tryd.prog w = .ok true w := by
  obtain ⟨i, hi, _, _, _⟩ := info_parts info8
  have hu : Tryd.prog.underlying 58 = some (.array 32 5) := by kernel_rfl
  have hc : Tryd.prog.cellsOf 5 = 1 := by kernel_rfl
  have h := run_equalIn_array (P := Tryd.prog) w 9999 (l.map B8).toArray (l.map B8).toArray hu hi
  rw [hc, items_same 9998 l w _ (fun i hi => by simp at hi; omega)] at h
  exact h

theorem Bytes.blk {w : World} {A : Option Addr} {l : List UInt8} (h : Bytes w A l) (hl : 0 < l.length) (a : Addr) (e : A = some a) : a.block < w.heap.size := by
  obtain ⟨b, off, rfl, hb, _⟩ := h.addr hl
  injection e with e; subst e; exact hb

/-- What all contracts of this package want of memory. -/
structure Tabs (w : World) : Prop where
  first : ∃ tt fr, w.heap[1]? = some (.cells first8.agg tt fr)
  round : ∀ i, i < 64 → w.cell? ⟨2, i, none⟩ = some (U32 (Kc i))
  two : 2 < w.heap.size
theorem Tabs.only {X : List Nat} {w w' : World} (h : Tabs w) (ho : Only X w w') (hX : ∀ i ∈ X, 2 < i) : Tabs w' := by
  refine ⟨?_, fun i hi => ?_, Nat.lt_of_lt_of_le h.two ho.size⟩
  · obtain ⟨tt, fr, hf⟩ := h.first
    exact ⟨tt, fr, (ho.block 1 (by have := h.two; omega) (fun hm => by have := hX 1 hm; omega)).trans hf⟩
  · rw [← h.round i hi]
    unfold World.cell?
    rw [ho.block 2 h.two (fun hm => by have := hX 2 hm; omega)]
theorem Tabs.below {w w' : World} (h : Tabs w) (hb : Below w.heap.size w w') : Tabs w' := h.only (only_below hb) (by simp)

set_option maxRecDepth 100000 in
set_option maxHeartbeats 1000000 in
theorem sum_nil (w : World) (hT : Tabs w) : Calls Tryd.prog 51 #[.pointer none] w fun e w' => e = .returned (.agg (St.new.digest.map B8).toArray) ∧ Below w.heap.size w w' := by
  obtain ⟨tt, fr, hf⟩ := hT.first
  have hz32 := (zero_of_info info32).1
  have HT := Lib.hid hT
  have hbA := below_one w (.cells zero32 58)
  have eA : (w.alloc (.cells zero32 58)).heap.size = w.heap.size + 1 := by simp
  have hr1 : (w.alloc (.cells zero32 58)).heap[w.heap.size]? = some (.cells zero32 58 (0, 0)) := heap_alloc_last _ _
  have h2 := hT.two
  have hf1 : (w.alloc (.cells zero32 58)).heap[1]? = some (.cells first8.agg tt fr) := (hbA.block 1 (by omega)).trans hf
  have HR1 := Lib.hid hr1
  have HF1 := Lib.hid hf1
  have HBA := Lib.hid hbA
  have HEA := Lib.hid eA
  clear hT hbA eA hr1 hf1 hf
  have HT1 : Hid (Tabs (w.alloc (.cells zero32 58))) := Lib.hid (HT.out.below HBA.out)
  go_enter Tryd.func51, Tryd.ntmps51
  go_wp2_with fail
  generalize w.alloc (.cells zero32 58) = w1 at *
  refine (new_any tt fr w1 HF1.out).mono ?_
  rintro e w2 ⟨rfl, hH2, hb2⟩
  have hT2 := HT1.out.below hb2
  have hr2 : w2.heap[w.heap.size]? = some (.cells zero32 58 (0, 0)) := (hb2.block _ (by rw [HEA.out]; omega)).trans HR1.out
  have hbb : Below w.heap.size w w2 := HBA.out.trans (hb2.mono (by rw [HEA.out]; omega))
  have hlt := lt_of_heap hH2.at_
  have hln : St.new.n ≤ 100000000 := by decide
  have HS := Lib.hid (sum_any w1.heap.size St.new w2 hH2 hlt hT2.round (by rw [HEA.out]; omega) hln)
  have HL2 : Hid (w.heap.size < w2.heap.size) := Lib.hid (by have := HEA.out; omega)
  have HR2 := Lib.hid hr2
  clear hH2 hb2 hln hr2
  go_wp2_with fail
  refine HS.out.mono ?_
  rintro e w3 ⟨rfl, hb3⟩
  have hr3 := (hb3.block _ HL2.out).trans HR2.out
  have hl8 : (St.new.digest.map B8).length = 32 := by rw [List.length_map, digest_length]
  have hone : (St.new.digest.map B8).toArray.all (·.oneCell') = true := all_oneCell_toArray (b8_one _)
  have hb4 : Below w.heap.size w w3 := hbb.trans (hb3.mono (Nat.le_of_lt HL2.out))
  generalize hD : St.new.digest.map B8 = D8 at *
  have HD := Lib.hid hD
  clear hD hb3
  go_wp2_with (refine wpList_store_row rfl 58 _ _ rfl w.heap.size D8.toArray rfl rfl 58 zero32 hr3 ?c2 ?c3 ?c4 ?_)
  case c2 => rw [zsize32]; simp [hl8]
  case c3 => simp [hl8, zero32]
  case c4 => exact hone
  refine bodyPost_ret (results_cell_row rfl _ _ w.heap.size 58 D8.toArray _ _ rfl (setRow_heap _ _ _ _ _ _ hr3) Tryd.underlying58 rfl (by rw [zsize32]; simp [hl8])) rfl ?_
  exact ⟨by rw [HD.out], below_setRow hb4 (by omega) _⟩

set_option maxRecDepth 100000 in
set_option maxHeartbeats 1000000 in
theorem write_nil (v : Value) (w : World) : Calls Tryd.prog 50 #[.pointer none, v] w fun e w' => e = .returned (.tuple #[]) ∧ w = w' := by
  go_enter Tryd.func50, Tryd.ntmps50
  go_wp2_with fail
  exact bodyPost_ret_by (results_none rfl _ _ _) rfl ⟨rfl, rfl⟩

set_option maxRecDepth 100000 in
set_option maxHeartbeats 1000000 in
theorem sumOf_any (A : Option Addr) (l : List UInt8) (c : Nat) (w : World) (hT : Tabs w) (hB : Bytes w A l) (hc : l.length ≤ c) (hm : c ≤ 9223372036854775807) (hn : l.length ≤ 100000000) :
    Calls Tryd.prog 40 #[.slice A l.length c] w fun e w' => e = .returned (.agg ((St.new.puts l).digest.map B8).toArray) ∧ Below w.heap.size w w' := by
  obtain ⟨tt, fr, hf⟩ := hT.first
  have hz32 := (zero_of_info info32).1
  have HT := Lib.hid hT
  have hbA := below_one w (.cells zero32 58)
  have eA : (w.alloc (.cells zero32 58)).heap.size = w.heap.size + 1 := by simp
  have hr1 : (w.alloc (.cells zero32 58)).heap[w.heap.size]? = some (.cells zero32 58 (0, 0)) := heap_alloc_last _ _
  have h2 := hT.two
  have hf1 : (w.alloc (.cells zero32 58)).heap[1]? = some (.cells first8.agg tt fr) := (hbA.block 1 (by omega)).trans hf
  have hB1 := hB.below hbA
  have hBlk := hB.blk
  have HR1 := Lib.hid hr1
  have HF1 := Lib.hid hf1
  have HBA := Lib.hid hbA
  have HEA := Lib.hid eA
  clear hT hbA eA hr1 hf1 hf hB
  have HT1 : Hid (Tabs (w.alloc (.cells zero32 58))) := Lib.hid (HT.out.below HBA.out)
  go_enter Tryd.func40, Tryd.ntmps40
  go_wp2_with fail
  generalize w.alloc (.cells zero32 58) = w1 at *
  refine (new_any tt fr w1 HF1.out).mono ?_
  rintro e w2 ⟨rfl, hH2, hb2⟩
  have hT2 := HT1.out.below hb2
  have hr2 : w2.heap[w.heap.size]? = some (.cells zero32 58 (0, 0)) := (hb2.block _ (by rw [HEA.out]; omega)).trans HR1.out
  have hbb : Below w.heap.size w w2 := HBA.out.trans (hb2.mono (by rw [HEA.out]; omega))
  have hlt := lt_of_heap hH2.at_
  have hB2 := hB1.below hb2
  have HWR := Lib.hid (write_any w1.heap.size St.new A l c w2 hH2 hB2 (fun h a e => by have := hBlk h a e; have := HEA.out; omega) hlt hT2.round (by have := HEA.out; omega) hc hm (by show 0 + l.length ≤ _; omega))
  have HL2 : Hid (w.heap.size < w2.heap.size) := Lib.hid (by have := HEA.out; omega)
  have HR2 := Lib.hid hr2
  have HT2 := Lib.hid hT2
  have HLT := Lib.hid hlt
  clear hH2 hb2 hr2 hB2 hB1 hBlk hT2 hlt
  go_wp2_with fail
  refine HWR.out.mono ?_
  rintro e w3 ⟨rfl, hH3, ho3⟩
  have hT3 := HT2.out.only ho3 (by simp; have := HEA.out; omega)
  have hr3 := (ho3.block _ HL2.out (by simp; have := HEA.out; omega)).trans HR2.out
  have hb3 : Below w.heap.size w w3 := hbb.trans (ho3.below (Nat.le_of_lt HL2.out) (by simp; have := HEA.out; omega))
  have hs3 := ho3.size
  have HS := Lib.hid (sum_any w1.heap.size (St.new.puts l) w3 hH3 (lt_of_heap hH3.at_) hT3.round (by have := HEA.out; omega) (by rw [St.puts_n]; show 0 + l.length ≤ _; omega))
  have HR3 := Lib.hid hr3
  have HL3 : Hid (w.heap.size < w3.heap.size) := Lib.hid (by have := HL2.out; omega)
  clear hH3 ho3 hr3 hbb
  go_wp2_with fail
  refine HS.out.mono ?_
  rintro e w4 ⟨rfl, hb4⟩
  have hr4 := (hb4.block _ HL3.out).trans HR3.out
  have hl8 : ((St.new.puts l).digest.map B8).length = 32 := by rw [List.length_map, digest_length]
  have hone : ((St.new.puts l).digest.map B8).toArray.all (·.oneCell') = true := all_oneCell_toArray (b8_one _)
  have hb5 : Below w.heap.size w w4 := hb3.trans (hb4.mono (Nat.le_of_lt HL3.out))
  generalize hD : (St.new.puts l).digest.map B8 = D8 at *
  have HD := Lib.hid hD
  clear hD hb3 hb4 hs3
  go_wp2_with (refine wpList_store_row rfl 58 _ _ rfl w.heap.size D8.toArray rfl rfl 58 zero32 hr4 ?c2 ?c3 ?c4 ?_)
  case c2 => rw [zsize32]; simp [hl8]
  case c3 => simp [hl8, zero32]
  case c4 => exact hone
  refine bodyPost_ret (results_cell_row rfl _ _ w.heap.size 58 D8.toArray _ _ rfl (setRow_heap _ _ _ _ _ _ hr4) Tryd.underlying58 rfl (by rw [zsize32]; simp [hl8])) rfl ?_
  exact ⟨by rw [HD.out], below_setRow hb5 (by omega) _⟩
end Go.Proofs.YtibkhajhmncgkaaDoor
