/- The walk over Hash.Sum: a hash that there is. -/
import Derived.Test.YtibkhajhmncgkaaDoorShaSum
namespace Go.Proofs.YtibkhajhmncgkaaDoor
open Go.RowKit

set_option maxRecDepth 100000 in
set_option maxHeartbeats 2000000 in
theorem sum_any (g : Nat) (s : St) (w : World) (hH : HashAt w g s) (hg : g < w.heap.size) (hK : ∀ i, i < 64 → w.cell? ⟨2, i, none⟩ = some (U32 (Kc i))) (h1 : 2 < g) (hn : s.n ≤ 100000000) :
    Calls Tryd.prog 51 #[.pointer (some ⟨g, 0, none⟩)] w fun e w' => e = .returned (.agg (s.digest.map B8).toArray) ∧ Below w.heap.size w w' := by
  have hz32 := (zero_of_info info32).1
  have hzH := (zero_of_info infoH).1
  have hbA := below_one w (.cells zero32 58)
  have eA : (w.alloc (.cells zero32 58)).heap.size = w.heap.size + 1 := by simp
  have hcs : (w.alloc (.cells zero32 58)).heap[g]? = some (.cells s.cells.toArray 85 (0, 0)) := (hbA.block g hg).trans hH.at_
  have hlast := heap_alloc_last (w.alloc (.cells zero32 58)) (.cells zeroH 85)
  rw [eA] at hlast
  have hH3 : HashAt ((w.alloc (.cells zero32 58)).alloc (.cells s.cells.toArray 85)) (w.heap.size + 1) s := by
    have h := heap_alloc_last (w.alloc (.cells zero32 58)) (.cells s.cells.toArray 85)
    rw [eA] at h
    exact ⟨h, hH.len⟩
  have hr3 : ((w.alloc (.cells zero32 58)).alloc (.cells s.cells.toArray 85)).heap[w.heap.size]? = some (.cells zero32 58 (0, 0)) :=
    ((below_one _ _).block _ (by rw [eA]; omega)).trans (heap_alloc_last _ _)
  have hb3 : Below w.heap.size w ((w.alloc (.cells zero32 58)).alloc (.cells s.cells.toArray 85)) := hbA.trans ((below_one _ _).mono hbA.size)
  have hs3 : ((w.alloc (.cells zero32 58)).alloc (.cells s.cells.toArray 85)).heap.size = w.heap.size + 1 + 1 := by simp
  have hset := World.setRow_alloc_new (w.alloc (.cells zero32 58)) zeroH s.cells.toArray 85
  rw [eA] at hset
  have HSET := Lib.hid hset
  have hc73 := s.cells_length hH.len
  have hone : s.cells.toArray.all (·.oneCell') = true := all_oneCell_toArray s.one
  have HPD := Lib.hid (fun (w' : World) (h : HashAt w' (w.heap.size + 1) s) h2 h3 => pad_any (w.heap.size + 1) s w' h h2 h3 (by omega) hn)
  have HK := Lib.hid hK
  clear hset hbA eA hK hn hH
  go_enter Tryd.func51, Tryd.ntmps51
  go_wp2_with (first | (refine wpList_load_row rfl 85 _ rfl g rfl 85 s.cells.toArray _ _ hcs Tryd.underlying85 rfl (by rw [zsizeH]; simp [hc73]) ?_) | (refine wpList_store_row rfl 85 _ _ rfl (w.heap.size + 1) s.cells.toArray rfl rfl 85 zeroH hlast (by rw [zsizeH]; simp [hc73]) (by rw [zeroH_size]; simp [hc73]) hone ?_; rw [HSET.out]))
  have hKW : ∀ i, i < 64 → ((w.alloc (.cells zero32 58)).alloc (.cells s.cells.toArray 85)).cell? ⟨2, i, none⟩ = some (U32 (Kc i)) := fun i hi => (hb3.cell (p := ⟨2, i, none⟩) (by show 2 < w.heap.size; omega)).trans (HK.out i hi)
  have HKW := Lib.hid hKW
  have HS3 := Lib.hid hs3
  have HN : Hid (s.puts (padding s.n) = s.puts (padding s.n)) := Lib.hid rfl
  generalize (w.alloc (.cells zero32 58)).alloc (.cells s.cells.toArray 85) = w3 at *
  clear hs3 hcs hlast HSET hKW hone hc73
  refine (HPD.out w3 hH3 (by have := HS3.out; omega) HKW.out).mono ?_
  rintro e w4 ⟨rfl, hH4, ho4⟩
  have hr4 : w4.heap[w.heap.size]? = some (.cells zero32 58 (0, 0)) := (ho4.block _ (by have := HS3.out; omega) (by simp)).trans hr3
  have hb4 : Below w.heap.size w w4 := hb3.trans (ho4.below hb3.size (by simp))
  have hl4 := lt_of_heap hH4.at_
  have HD : Hid (s.digest = digTo (s.puts (padding s.n)).ws 8) := Lib.hid rfl
  generalize hP : s.puts (padding s.n) = P at *
  clear hP HPD HKW hr3 hb3 ho4 HN
  have hR0 := hH4.range0
  have e0 : (w4.alloc (.cells zero32 58)).heap.size = w4.heap.size + 1 := by simp
  have hR1 : (w4.alloc (.cells zero32 58)).rangeAt (w.heap.size + 1) 0 P.ws.agg.toList := (hH4.belowB (below_one _ _) hl4).range0
  have hr5 : (w4.alloc (.cells zero32 58)).heap[w.heap.size]? = some (.cells zero32 58 (0, 0)) := ((below_one _ _).block _ (by omega)).trans hr4
  have hh5 : (w4.alloc (.cells zero32 58)).heap[w4.heap.size]? = some (.cells zero32 58 (0, 0)) := heap_alloc_last _ _
  have hb5 : Below w.heap.size w (w4.alloc (.cells zero32 58)) := hb4.trans ((below_one _ _).mono hb4.size)
  have HB4 := Lib.hid hb4.size
  clear e0 hb4 hr4 hR0
  go_wp2_with (refine wpList_load_mid rfl 82 _ rfl (w.heap.size + 1) 0 rfl P.ws.agg.toList _ hR1 Tryd.underlying82 rfl (by rw [zsize8]; rfl) ?_)
  generalize w4.alloc (.cells zero32 58) = w5 at *
  go_loopw [17] (fun v wr => ∃ k : Nat, k ≤ 8 ∧ v = .int .i64 k ∧ wr.heap[w4.heap.size]? = some (.cells ((digTo P.ws k).map B8 ++ List.replicate (32 - 4 * k) (Value.int .u8 0)).toArray 58 (0, 0)) ∧ wr.heap[w.heap.size]? = some (.cells zero32 58 (0, 0)) ∧ Below w.heap.size w wr) (fun v _ => (8 - intOf v).toNat)
  case atStart => exact ⟨0, by omega, rfl, by simpa [digTo, zero32] using hh5, hr5, hb5⟩
  case round =>
    obtain ⟨k, hk, rfl, hd, hr, hb⟩ := hrel
    clear hh5 hr5 hb5 hR1 hH4 hH3
    by_cases hlt : k < 8
    · have hix : ∀ w, (Instr.index 82 (.agg P.ws.agg) (.int .i64 (k : Nat))).run Tryd.prog w = .ok (U32 (P.ws.get k)) w := fun w => agg8_index P.ws k hlt w
      have hlen : ((digTo P.ws k).map B8 ++ List.replicate (32 - 4 * k) (Value.int .u8 0)).length = 32 := by simp [digTo_length]; omega
      have hcut : ∀ w, (Instr.sliceAt 58 (.pointer (some ⟨w4.heap.size, 0, none⟩)) (some (.int .i64 (4 * (k : Int)))) none none).run Tryd.prog w = .ok (.slice (some ⟨w4.heap.size, 4 * k, none⟩) (32 - 4 * k) (32 - 4 * k)) w := fun w => cut32 w4.heap.size (4 * k) (by omega) w
      have HNX := Lib.hid (dig_next P.ws k hlt)
      have HPW := Lib.hid (fun wx hx => putWord_any w4.heap.size (4 * k) (32 - 4 * k) (32 - 4 * k) (P.ws.get k) _ 58 wx hx (by rw [hlen]; omega) (by omega))
      clear hlen
      go_wp2_with fail
      refine (HPW.out wr hd).mono ?_
      rintro e w6 ⟨rfl, hd6, ho6⟩
      rw [HNX.out] at hd6
      have hr6 := (ho6.block _ (lt_of_heap hr) (by have := HB4.out; simp; omega)).trans hr
      have hb6 := hb.trans (ho6.below hb.size (by simp; exact HB4.out))
      clear HPW hd ho6
      go_wp2_with fail
      go_roundw
      case rel => exact ⟨k + 1, by omega, by go_num, hd6, hr6, hb6⟩
      case measure => simp [intOf]; omega
    · obtain rfl : k = 8 := by omega
      have hD8 : ((digTo P.ws 8).map B8 ++ List.replicate (32 - 4 * 8) (Value.int .u8 0)) = (digTo P.ws 8).map B8 := by simp
      rw [hD8] at hd
      have hl8 : ((digTo P.ws 8).map B8).length = 32 := by rw [List.length_map, digTo_length]
      have hone : ((digTo P.ws 8).map B8).toArray.all (·.oneCell') = true := all_oneCell_toArray (b8_one _)
      have hDD : s.digest.map B8 = (digTo P.ws 8).map B8 := by rw [HD.out]
      have HDD := Lib.hid hDD
      clear hDD
      generalize (digTo P.ws 8).map B8 = D8 at *
      clear hD8
      go_wp2_with (first | (refine wpList_load_row rfl 58 _ rfl w4.heap.size rfl 58 D8.toArray _ _ hd Tryd.underlying58 rfl ?c1 ?_) | (refine wpList_store_row rfl 58 _ _ rfl w.heap.size D8.toArray rfl rfl 58 zero32 hr ?c2 ?c3 ?c4 ?_))
      case c1 => rw [zsize32]; simp [hl8]
      case c2 => rw [zsize32]; simp [hl8]
      case c3 => simp [hl8, zero32]
      case c4 => exact hone
      refine bodyPost_ret (results_cell_row rfl _ _ w.heap.size 58 D8.toArray _ _ rfl (setRow_heap _ _ _ _ _ _ hr) Tryd.underlying58 rfl (by rw [zsize32]; simp [hl8])) rfl ?_
      exact ⟨by rw [HDD.out], below_setRow hb (by omega) _⟩
end Go.Proofs.YtibkhajhmncgkaaDoor
