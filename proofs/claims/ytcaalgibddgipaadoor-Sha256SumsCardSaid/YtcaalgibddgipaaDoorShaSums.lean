/- The contract of Sha256Sums. -/
import Derived.Test.YtcaalgibddgipaaDoorShaRSum
import Derived.Test.YtcaalgibddgipaaDoorShaKnows
namespace Go.Proofs.YtcaalgibddgipaaDoor
open Go.RowKit

theorem cutAll (g : Nat) (w : World) : (Instr.sliceAt 24 (.pointer (some ⟨g, 0, none⟩)) none none none).run Tryd.prog w = .ok (.slice (some ⟨g, 0, none⟩) 32 32) w := by
  have ha : Tryd.prog.arrayLen 24 = 32 := by kernel_rfl
  have hu : Tryd.prog.underlying 24 = some (.array (Tryd.prog.arrayLen 24) (Tryd.prog.elem 24)) := by kernel_rfl
  have hs : (sizeOf (Tryd.prog.elem 24)).run Tryd.prog w = .ok 1 w := by kernel_rfl
  rw [run_sliceAt_array_all w 24 ⟨g, 0, none⟩ hu, hs, ha]
  simp [Result.andThen, slicedAt]
  unfold Addr.add; split <;> simp_all
theorem below_drew (w : World) : Below w.heap.size w w.drew := (Below.refl _ _).drew

set_option maxRecDepth 100000 in
set_option maxHeartbeats 2000000 in
theorem sums_law (A : Option Addr) (l : List UInt8) (c : Nat) (w : World) (hB : Bytes w A l) (hc : l.length ≤ c) (hm : c ≤ 9223372036854775807) (hT : Tabs w) :
    Calls Tryd.prog 3 #[.slice A l.length c] w (Holds w) := by
  by_cases h300 : 300 < l.length
  · have HK := Lib.hid (knows_any w hT)
    have hi : (300 : Int) < (l.length : Int) := by omega
    clear h300
    go_enter Tryd.func3, Tryd.ntmps3
    go_wp2_with ((with_reducible refine HK.out.mono ?_); rintro e w' ⟨rfl, hb⟩)
    go_ret
    exact ⟨rfl, hb⟩
  have hi : (l.length : Int) ≤ 300 := by omega
  have hz32 := (zero_of_info info32).1
  have HS := Lib.hid (sumOf_any A l c w hT hB hc hm (by omega))
  have HT := Lib.hid hT
  have HREF := Lib.hid (fun w' (h : Bytes w' A l) => rsum_any A l c w' h (by omega))
  have HDL0 : (St.new.puts l).digest.length = 32 := digest_length _
  generalize (St.new.puts l).digest = D at *
  clear h300 hT
  go_enter Tryd.func3, Tryd.ntmps3
  go_wp2_with fail
  refine HS.out.mono ?_
  rintro e w2 ⟨rfl, hb2⟩
  have hlast := heap_alloc_last w2 (.cells zero32 24)
  have hset := World.setRow_alloc_new w2 zero32 (D.map B8).toArray 24
  have hsz : ((Tryd.prog.info? 24).map (·.size)) = some (D.map B8).toArray.size := by rw [zsize32]; simp [HDL0]
  have hzz : zero32.size = (D.map B8).toArray.size := by simp [HDL0, zero32]
  have hone : (D.map B8).toArray.all (·.oneCell') = true := all_oneCell_toArray (b8_one _)
  have hB3 : Bytes (w2.alloc (.cells (D.map B8).toArray 24)) (some ⟨w2.heap.size, 0, none⟩) D := .inr ⟨_, _, rfl, by simp, fun k hk => by
    rw [cell_of_row _ _ _ _ _ _ (heap_alloc_last _ _), Nat.zero_add, List.getElem?_toArray, List.getElem?_map, List.getElem?_eq_getElem hk]; rfl⟩
  have hb3 := hb2.trans ((below_one w2 (.cells (D.map B8).toArray 24)).mono hb2.size)
  have e3 : (w2.alloc (.cells (D.map B8).toArray 24)).heap.size = w2.heap.size + 1 := by simp
  have HB3 := Lib.hid hB3
  have HSET := Lib.hid hset
  have HDL := Lib.hid HDL0
  have HCUT := Lib.hid (fun w => cutAll w2.heap.size w)
  generalize (D.map B8).toArray = DV at *
  clear hset hB3 HDL0 hb2 e3
  go_wp2_with (refine wpList_store_row rfl 24 _ _ rfl w2.heap.size DV rfl rfl 24 zero32 hlast hsz hzz hone ?_; rw [HSET.out])
  generalize w2.alloc (.cells DV 24) = w3 at *
  have hdr : Below w3.heap.size w3 w3.drew := below_drew w3
  clear hlast hsz hzz hone
  refine wp_region_held_drew (S := fun w' => Below w3.heap.size w3 w') (by kernel_rfl) hdr (fun hS => ?_)
  refine wpAnyH_take (i := 0) (oi := { dst := some 10, op := Op.slice 24 (Operand.tmp 3) none none none, type := 22, pos := "law.go:21", after := #[], guard := none }) (v := ?va1) rfl (by kernel_rfl) (by kernel_rfl) (by kernel_rfl) (fun _ _ _ h => h) (Or.inl ⟨by rfl, ?ya1⟩) hS ?_
  case ya1 =>
    intro w hSw
    have k := HCUT.out w
    go_simp; all_goals (with_reducible rfl)
  simp only [Act.put, List.setIfInBounds_toArray, List.set_cons_zero, List.set_cons_succ]
  refine wpAnyH_take (i := 1) (oi := { dst := some 11, op := Op.convert 22 9 (Operand.tmp 10), type := 9, pos := "law.go:21", after := #[{ on := 0, ground := Ground.data }], guard := none }) (v := ?va2) rfl (by kernel_rfl) (by kernel_rfl) (by kernel_rfl) (fun _ _ _ h => h) (Or.inl ⟨by rfl, ?ya2⟩) hS ?_
  case ya2 =>
    intro w hSw
    have k := run_str (HB3.out.below hSw) 32
    rw [HDL.out] at k
    go_simp; all_goals (with_reducible rfl)
  simp only [Act.put, List.setIfInBounds_toArray, List.set_cons_zero, List.set_cons_succ]
  refine wpAnyH_take (i := 2) (oi := { dst := some 12, op := Op.move (Operand.tmp 0), type := 22, pos := "law.go:21", after := #[], guard := none }) (v := ?va3) rfl (by kernel_rfl) (by kernel_rfl) (by kernel_rfl) (fun _ _ _ h => h) (Or.inl ⟨by rfl, ?ya3⟩) hS ?_
  case ya3 =>
    intro w hSw
    go_simp; all_goals (with_reducible rfl)
  simp only [Act.put, List.setIfInBounds_toArray, List.set_cons_zero, List.set_cons_succ]
  refine wpAnyH_ready (rs := [3]) (by kernel_rfl) (by simp) ?_
  refine (AllReadyH.cons (o := { dst := some 13, op := Op.call { callee := Callee.value (Operand.func 7), args := #[Operand.tmp 12], argTypes := #[22] }, type := 22, pos := "law.go:21", after := #[{ on := 2, ground := Ground.data }], guard := none }) rfl (fun K hK => ?_) AllReadyH.nil)
  go_simp
  refine (HREF.out w3.drew (hB.below (hb3.trans (hdr.mono hb3.size)))).mono ?_
  rintro e w4 ⟨Ar, cr, rfl, _, _, hBr, hb4⟩
  have kr := run_str hBr cr
  rw [HDL.out] at kr
  have g4 := hdr.trans (hb4.mono hdr.size)
  have g04 := hb3.trans (g4.mono hb3.size)
  clear hb4
  rw [HDL.out]
  go_wp2_with fail
  refine hK.out _ _ g4 (fun _ => ?_)
  clear hK K
  refine wpAnyH_ready (rs := [4]) (by kernel_rfl) (by simp) ?_
  refine (AllReadyH.cons (o := { dst := some 14, op := Op.convert 22 9 (Operand.tmp 13), type := 9, pos := "law.go:21", after := #[{ on := 3, ground := Ground.data }], guard := none }) rfl (fun K hK => ?_) AllReadyH.nil)
  go_simp
  refine hK.out _ _ g4 (fun _ => ?_)
  clear hK K
  refine wpAnyH_take (i := 5) (oi := { dst := some 15, op := Op.binOp BinOp.eql 9 (Operand.tmp 11) (Operand.tmp 14) 9, type := 4, pos := "law.go:21", after := #[{ on := 1, ground := Ground.data }, { on := 4, ground := Ground.data }], guard := none }) (v := ?va4) rfl (by kernel_rfl) (by kernel_rfl) (by kernel_rfl) (fun _ _ _ h => h) (Or.inl ⟨by rfl, ?ya4⟩) g4 ?_
  case ya4 =>
    intro w hSw
    go_simp; all_goals (with_reducible rfl)
  simp only [Act.put, List.setIfInBounds_toArray, List.set_cons_zero, List.set_cons_succ]
  refine wpAnyH_take (i := 6) (oi := { dst := some 16, op := Op.move (Operand.tmp 15), type := 4, pos := "law.go:21", after := #[{ on := 5, ground := Ground.data }, { on := 3, ground := Ground.chain }], guard := none }) (v := ?va5) rfl (by kernel_rfl) (by kernel_rfl) (by kernel_rfl) (fun _ _ _ h => h) (Or.inl ⟨by rfl, ?ya5⟩) g4 ?_
  case ya5 =>
    intro w hSw
    go_simp; all_goals (with_reducible rfl)
  simp only [Act.put, List.setIfInBounds_toArray, List.set_cons_zero, List.set_cons_succ]
  refine wpAnyH_ready (rs := [7]) (by kernel_rfl) (by simp) ?_
  refine (AllReadyH.cons (o := { dst := some 17, op := Op.call { callee := Callee.value (Operand.func 5), args := #[], argTypes := #[] }, type := 4, pos := "law.go:21", after := #[{ on := 6, ground := Ground.chain }, { on := 6, ground := Ground.guard }], guard := some (6, true) }) rfl (fun K hK => ?_) AllReadyH.nil)
  go_simp
  refine (knows_any w4 (HT.out.below g04)).mono ?_
  rintro e w5 ⟨rfl, hb5⟩
  have g5 := g4.trans (hb5.mono g4.size)
  have g05 := hb3.trans (g5.mono hb3.size)
  go_wp2_with fail
  refine hK.out _ _ g5 (fun _ => ?_)
  clear hK K
  refine wpAnyH_take (i := 8) (oi := { dst := some 18, op := Op.pick (Operand.tmp 16) (Operand.tmp 17) (Operand.const (Value.bool false)), type := 4, pos := "law.go:21", after := #[{ on := 6, ground := Ground.data }, { on := 7, ground := Ground.data }], guard := none }) (v := ?va6) rfl (by kernel_rfl) (by kernel_rfl) (by kernel_rfl) (fun _ _ _ h => h) (Or.inl ⟨by rfl, ?ya6⟩) g5 ?_
  case ya6 =>
    intro w hSw
    go_simp; all_goals (with_reducible rfl)
  simp only [Act.put, List.setIfInBounds_toArray, List.set_cons_zero, List.set_cons_succ]
  refine wpAnyH_take (i := 9) (oi := { dst := some 2, op := Op.assign (Operand.tmp 18), type := 4, pos := "law.go:21", after := #[{ on := 8, ground := Ground.data }, { on := 7, ground := Ground.chain }, { on := 0, ground := Ground.phase }, { on := 1, ground := Ground.phase }, { on := 2, ground := Ground.phase }, { on := 3, ground := Ground.phase }, { on := 4, ground := Ground.phase }, { on := 5, ground := Ground.phase }, { on := 6, ground := Ground.phase }, { on := 7, ground := Ground.phase }, { on := 8, ground := Ground.phase }], guard := none }) (v := ?va7) rfl (by kernel_rfl) (by kernel_rfl) (by kernel_rfl) (fun _ _ _ h => h) (Or.inl ⟨by rfl, ?ya7⟩) g5 ?_
  case ya7 =>
    intro w hSw
    go_simp; all_goals (with_reducible rfl)
  simp only [Act.put, List.setIfInBounds_toArray, List.set_cons_zero, List.set_cons_succ]
  refine wpAnyH_done (by kernel_rfl) ?_ _
  go_wp2_with fail
  go_ret
  exact ⟨rfl, g05⟩
end Go.Proofs.YtcaalgibddgipaaDoor
