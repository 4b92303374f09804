/- The walk over the reference's Roots. -/
import Derived.Test.YtibkhajhmncgkaaDoorShaRPrimes
import Derived.Test.YtibkhajhmncgkaaDoorShaNew
namespace Go.Proofs.YtibkhajhmncgkaaDoor
open Go.RowKit

abbrev I32 (n : Int) : Value := .int .u32 n
def kVals : List Value := kList.map U32
def RootsDone (w : World) (e : Ending) (w' : World) : Prop := ∃ v1 v2, e = .returned (.tuple #[v1, v2]) ∧ OwnV 53 w.heap.size w' v1 first8.agg.toList ∧ OwnV 53 w.heap.size w' v2 kVals ∧ Below w.heap.size w w'
theorem OwnV.weaken {t : TypeId} {base base' : Nat} {w : World} {v : Value} {l : List Value} (h : OwnV t base w v l) (hb : base' ≤ base) : OwnV t base' w v l := by
  rcases h with ⟨h1, h2 | ⟨g, cap, cur, h2, h3, h4⟩⟩
  · exact ⟨h1, .inl h2⟩
  · exact ⟨h1, .inr ⟨g, cap, cur, h2, by omega, h4⟩⟩
theorem roots2_len : roots2.length = 8 := by rw [roots2_eq]; rfl
theorem roots3_len : roots3.length = 64 := by rw [roots3_eq]; rfl
theorem roots2_succ (k : Nat) (h : k < 8) (hk : k < (plist 310).length) : roots2.take (k + 1) = roots2.take k ++ [sq ((plist 310)[k] : Nat) 37 % 4294967296] := by
  rw [List.take_succ_eq_append_getElem (by rw [roots2_len]; exact h)]
  simp [roots2]
theorem roots3_succ (k : Nat) (h : k < 64) (hk : k < (plist 310).length) : roots3.take (k + 1) = roots3.take k ++ [cb ((plist 310)[k] : Nat) 36 % 4294967296] := by
  rw [List.take_succ_eq_append_getElem (by rw [roots3_len]; exact h)]
  simp [roots3]
theorem roots2_end (k : Nat) (h : 8 ≤ k) : roots2.take k = roots2 := List.take_of_length_le (by rw [roots2_len]; exact h)
theorem roots3_end : roots3.take 64 = roots3 := List.take_of_length_le (by rw [roots3_len]; exact Nat.le_refl _)
theorem roots2_vals : roots2.map I32 = first8.agg.toList := by rw [roots2_eq]; rfl
theorem roots3_vals : roots3.map I32 = kVals := by rw [roots3_eq]; unfold kVals; rw [List.map_map]; rfl
theorem one_int {k : IntKind} (n : Int) : ∀ u ∈ [Value.int k n], u.oneCell' = true := by intro u hu; simp at hu; subst hu; rfl

set_option maxRecDepth 100000 in
set_option maxHeartbeats 2000000 in
theorem roots_any (w : World) : Calls Tryd.prog 43 #[] w (RootsDone w) := by
  go_enter Tryd.func43, Tryd.ntmps43
  go_wp2_with fail
  refine (primes_any w).mono ?_
  rintro e w1 ⟨vp, rfl, hp, hb1⟩
  have HPL := Lib.hid plist_at.2
  have hpl : 0 < ((plist 310).map U64).length := by rw [List.length_map, HPL.out]; omega
  obtain ⟨gp, cp, rfl, hgp1, hgp2, hgp3, hgp4, hpc⟩ := hp.some_of_pos hpl
  have e64 : ((plist 310).map U64).length = 64 := by rw [List.length_map, HPL.out]
  rw [e64] at hgp3 ⊢
  have HPC : Hid (∀ i (h : i < (plist 310).length), w1.cell? ⟨gp, i, none⟩ = some (U64 (plist 310)[i]) ∧ (plist 310)[i] ≤ 311) := Lib.hid (fun i h => ⟨by rw [hpc i (by rw [List.length_map]; exact h)]; simp, by have := plist_pos 310 _ (List.getElem_mem h); omega⟩)
  have HR2 := Lib.hid roots2_succ
  have HR3 := Lib.hid roots3_succ
  have HE := Lib.hid roots2_end
  clear hpc e64 hpl hp
  generalize plist 310 = P at *
  go_wp2_with fail
  go_loopw [3, 4, 5] (fun v3 v4 i wr => ∃ k : Nat, k ≤ 64 ∧ i = .int .i64 k ∧ OwnV 53 w1.heap.size wr v3 ((roots2.take k).map I32) ∧ OwnV 53 w1.heap.size wr v4 ((roots3.take k).map I32) ∧ (∀ g, v3.ownBlock = some g → v4.ownBlock ≠ some g) ∧ Below w1.heap.size w1 wr) (fun _ _ i _ => (64 - intOf i).toNat)
  case atStart => exact ⟨0, by omega, rfl, OwnV.nil _ _ _, OwnV.nil _ _ _, by simp [Value.ownBlock], Below.refl _ _⟩
  case round =>
    obtain ⟨k, hk, rfl, hown3, hown4, hne, hb⟩ := hrel
    by_cases hlt : k < 64
    · obtain ⟨hc0, hc1⟩ := HPC.out k (by rw [HPL.out]; exact hlt)
      have hR2 := fun h => HR2.out k h (by rw [HPL.out]; exact hlt)
      have hR3 := HR3.out k hlt (by rw [HPL.out]; exact hlt)
      generalize P[k]'(by rw [HPL.out]; exact hlt) = p at *
      have hc := (hb.cell (p := ⟨gp, k, none⟩) hgp2).trans hc0
      have hpi : (p : Int) ≤ 311 := by omega
      have HR3k := Lib.hid hR3
      have HR2k := Lib.hid hR2
      have hki : (k : Int) < 64 := by omega
      have HC0 := Lib.hid hc0
      have HSQ := Lib.hid (fun w => square_any (p : Int) (by omega) (by omega) w)
      have HCB := Lib.hid (fun w => cube_any (p : Int) w)
      obtain ⟨s, hs⟩ : ∃ s, sq (p : Int) 37 % 4294967296 = s := ⟨_, rfl⟩
      obtain ⟨c, hcc⟩ : ∃ c, cb (p : Int) 36 % 4294967296 = c := ⟨_, rfl⟩
      rw [hs] at HSQ HR2k
      rw [hcc] at HCB HR3k
      have hl2 : ((roots2.take k).map I32).length ≤ 8 := by rw [List.length_map, List.length_take, roots2_len]; omega
      have hl3 : ((roots3.take k).map I32).length ≤ 64 := by rw [List.length_map, List.length_take, roots3_len]; omega
      clear hs hcc hR2 hR3 hc0
      by_cases h8 : k < 8
      · have h8i : (k : Int) < 8 := by omega
        go_wp2_with fail
        refine (HSQ.out _).mono ?_
        rintro e w' ⟨rfl, rfl⟩
        have hownA := hown3.alloc (.cells #[.int .u32 s] 53)
        have hown4A := hown4.alloc (.cells #[.int .u32 s] 53)
        have hlc := lit_cell1 wr (.int .u32 s) 53
        have hbA := hb.alloc hb.size (.cells #[.int .u32 s] 53)
        have hsA := hbA.size
        have hszA : (wr.alloc (.cells #[.int .u32 s] 53)).heap.size = wr.heap.size + 1 := by simp
        have HSZ := Lib.hid hszA
        clear hc hszA
        go_wp2_with (refine wpList_append_vals elem32 rfl _ _ rfl w1.heap.size _ u3 _ rfl hownA wr.heap.size 1 1 [.int .u32 s] rfl rfl hlc (one_int s) (by omega) (by omega) hsA ?_; intro v3' w3 hownB hgB hatB; have hbB := below_grown2 hbA hgB hsA (fun g e => (hownA.lt g e).1); have hc3 := (hbB.cell (p := ⟨gp, k, none⟩) hgp2).trans HC0.out)
        have hown4B := hown4A.grown hgB (fun g e h => hne g h e)
        have hneB : ∀ g, v3'.ownBlock = some g → u4.ownBlock ≠ some g := fun g e h => by
          rcases hatB with h2 | h2
          · exact hne g (h2.symm.trans e) h
          · have := (hown4.lt g h).2
            rw [h2] at e; injection e with e
            have h3 := HSZ.out; omega
        refine (HCB.out _).mono ?_
        rintro e w' ⟨rfl, rfl⟩
        have hownC := hownB.alloc (.cells #[.int .u32 c] 53)
        have hown4C := hown4B.alloc (.cells #[.int .u32 c] 53)
        have hlc2 := lit_cell1 w3 (.int .u32 c) 53
        have hbC := hbB.alloc hbB.size (.cells #[.int .u32 c] 53)
        have hsC := hbC.size
        have hszC : (w3.alloc (.cells #[.int .u32 c] 53)).heap.size = w3.heap.size + 1 := by simp
        have HSZC := Lib.hid hszC
        clear hszC hc3
        go_wp2_with (refine wpList_append_vals elem32 rfl _ _ rfl w1.heap.size _ u4 _ rfl hown4C w3.heap.size 1 1 [.int .u32 c] rfl rfl hlc2 (one_int c) (by omega) (by omega) hsC ?_; intro v4' w5 hownD hgD hatD)
        have hown3D := hownC.grown hgD (fun g e h => hneB g e h)
        have hbD := below_grown2 hbC hgD hsC (fun g e => (hown4C.lt g e).1)
        go_roundw
        case rel =>
          refine ⟨k + 1, by omega, by go_num, by rw [HR2k.out h8, List.map_append]; exact hown3D, by rw [HR3k.out, List.map_append]; exact hownD, fun g e h => ?_, hbD⟩
          rcases hatD with h2 | h2
          · exact hneB g e (h2.symm.trans h)
          · have := (hownB.lt g e).2
            rw [h2] at h; injection h with h
            have h3 := HSZC.out; omega
        case measure => simp [intOf]; omega
      · have h8i : (8 : Int) ≤ (k : Int) := by omega
        have HK1 : Hid (roots2.take (k + 1) = roots2.take k) := Lib.hid (by rw [HE.out k (by omega), HE.out (k + 1) (by omega)])
        go_wp2_with fail
        refine (HCB.out _).mono ?_
        rintro e w' ⟨rfl, rfl⟩
        have hownC := hown3.alloc (.cells #[.int .u32 c] 53)
        have hown4C := hown4.alloc (.cells #[.int .u32 c] 53)
        have hlc2 := lit_cell1 wr (.int .u32 c) 53
        have hbC := hb.alloc hb.size (.cells #[.int .u32 c] 53)
        have hsC := hbC.size
        have hszC : (wr.alloc (.cells #[.int .u32 c] 53)).heap.size = wr.heap.size + 1 := by simp
        have HSZC := Lib.hid hszC
        clear hszC hc
        go_wp2_with (refine wpList_append_vals elem32 rfl _ _ rfl w1.heap.size _ u4 _ rfl hown4C wr.heap.size 1 1 [.int .u32 c] rfl rfl hlc2 (one_int c) (by omega) (by omega) hsC ?_; intro v4' w5 hownD hgD hatD)
        have hown3D := hownC.grown hgD (fun g e h => hne g e h)
        have hbD := below_grown2 hbC hgD hsC (fun g e => (hown4C.lt g e).1)
        go_roundw
        case rel =>
          refine ⟨k + 1, by omega, by go_num, by rw [HK1.out]; exact hown3D, by rw [HR3k.out, List.map_append]; exact hownD, fun g e h => ?_, hbD⟩
          rcases hatD with h2 | h2
          · exact hne g e (h2.symm.trans h)
          · have := (hown3.lt g e).2
            rw [h2] at h; injection h with h
            have h3 := HSZC.out; omega
        case measure => simp [intOf]; omega
    · obtain rfl : k = 64 := by omega
      rw [HE.out 64 (by omega), roots2_vals] at hown3
      rw [roots3_end, roots3_vals] at hown4
      go_wp2_with fail
      go_ret2
      exact ⟨_, _, rfl, hown3.weaken hb1.size, hown4.weaken hb1.size, hb1.trans (hb.mono hb1.size)⟩
end Go.Proofs.YtibkhajhmncgkaaDoor
