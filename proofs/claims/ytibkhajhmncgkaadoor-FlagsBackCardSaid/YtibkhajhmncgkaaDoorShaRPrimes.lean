/- The walk over the reference's primes. -/
import Derived.Test.YtibkhajhmncgkaaDoorShaRRoots
namespace Go.Proofs.YtibkhajhmncgkaaDoor
open Go.RowKit

abbrev U64 (n : Nat) : Value := .int .u64 (n : Nat)
theorem elem64 : Elem 71 48 (.int .u64 0) 8 := ⟨Tryd.underlying71, by kernel_rfl, rfl⟩
theorem elem32 : Elem 62 53 (.int .u32 0) 4 := ⟨Tryd.underlying62, by kernel_rfl, rfl⟩
def PrimesDone (w : World) (e : Ending) (w' : World) : Prop := ∃ v, e = .returned v ∧ OwnV 48 w.heap.size w' v ((plist 310).map U64) ∧ Below w.heap.size w w'
theorem all_take_succ (l : List Nat) (f : Nat → Bool) (i : Nat) (h : i < l.length) : (l.take (i + 1)).all f = ((l.take i).all f && f l[i]) := by
  rw [List.take_succ_eq_append_getElem h, List.all_append]; simp

set_option maxRecDepth 100000 in
set_option maxHeartbeats 2000000 in
theorem primes_any (w : World) : Calls Tryd.prog 53 #[.int .i64 64] w (PrimesDone w) := by
  go_enter Tryd.func53, Tryd.ntmps53
  go_wp2_with fail
  go_loopw [3, 4] (fun v n wr => ∃ k : Nat, k ≤ 310 ∧ n = .int .u64 ((k : Int) + 2) ∧ OwnV 48 w.heap.size wr v ((plist k).map U64) ∧ Below w.heap.size w wr) (fun _ n _ => (312 - intOf n).toNat)
  case atStart => exact ⟨0, by omega, rfl, OwnV.nil _ _ _, Below.refl _ _⟩
  case round =>
    obtain ⟨k, hk, rfl, hown, hb⟩ := hrel
    obtain ⟨A, c, rfl, hc, hm, hcell⟩ := hown.read
    have hlen : ((plist k).map U64).length = (plist k).length := List.length_map ..
    rw [hlen] at hc hown ⊢
    have hpos := plist_pos k
    have hk0 : (0 : Int) ≤ (k : Int) := by omega
    have hkm : (k : Int) ≤ 310 := by omega
    by_cases hlt : k < 310
    · have h63 : (plist k).length < 64 := by have := plist_le (show k ≤ 309 by omega); have := plist_at.1; omega
      have hcl : ∀ i (h : i < (plist k).length), ∃ g, A = some ⟨g, 0, none⟩ ∧ wr.cell? ⟨g, i, none⟩ = some (U64 (plist k)[i]) := fun i h => by
        obtain ⟨g, h1, h2⟩ := hcell i (by rw [hlen]; exact h)
        exact ⟨g, h1, by rw [h2]; simp⟩
      have HST : Hid (plist (k + 1) = pstep (plist k) (k + 2)) := Lib.hid rfl
      have HL := Lib.hid hlen
      clear hcell hlen
      generalize plist k = L at *
      have h63i : (L.length : Int) < 64 := by omega
      go_wp2_with fail
      go_loop [5, 6] (fun b i => ∃ j : Nat, j ≤ L.length ∧ i = .int .i64 j ∧ b = .bool ((L.take j).all fun p => (k + 2) % p != 0)) (fun _ i => L.length - (intOf i).toNat)
      case atStart => exact ⟨0, by omega, rfl, rfl⟩
      case round =>
        obtain ⟨j, hj, rfl, rfl⟩ := hrel
        by_cases hjl : j < L.length
        · obtain ⟨g, rfl, hcj⟩ := hcl j hjl
          obtain ⟨p0, p1⟩ := hpos L[j] (List.getElem_mem _)
          have HA := Lib.hid (all_take_succ L (fun p => (k + 2) % p != 0) j hjl)
          have hji : (j : Int) < (L.length : Int) := by omega
          generalize L[j] = p at *
          have p0i : (2 : Int) ≤ (p : Int) := by omega
          have p1i : (p : Int) ≤ 312 := by omega
          generalize (L.take j).all (fun p => (k + 2) % p != 0) = bb at *
          have hmi : ((k : Int) + 2) % (p : Int) = (((k + 2) % p : Nat) : Int) := by rw [Int.natCast_emod]; rfl
          by_cases hz : (k + 2) % p = 0
          · have hmi0 : ((k : Int) + 2) % (p : Int) = 0 := by rw [hmi, hz]; rfl
            clear hmi
            go_wp2_with fail
            go_round
            case rel => exact ⟨j + 1, by omega, by go_num, by rw [HA.out, hz]; simp⟩
            case measure => simp [intOf]; omega
          · have hzi : (((k + 2) % p : Nat) : Int) ≠ 0 := by omega
            generalize (k + 2) % p = m at *
            have hmb : ((m : Int) == 0) = false := by simpa using hzi
            go_wp2_with fail
            go_round
            case rel => exact ⟨j + 1, by omega, by go_num, by rw [HA.out]; have : (m != 0) = true := by simpa using hz
                                                              rw [this]; simp⟩
            case measure => simp [intOf]; omega
        · obtain rfl : j = L.length := by omega
          have HT : Hid ((L.take L.length).all (fun p => (k + 2) % p != 0) = L.all (fun p => (k + 2) % p != 0)) := Lib.hid (by rw [List.take_length])
          by_cases hall : L.all (fun p => (k + 2) % p != 0) = true
          · have HR : Hid (plist (k + 1) = L ++ [k + 2]) := Lib.hid (by rw [HST.out, pstep, if_pos hall])
            rw [HT.out, hall]
            have hown2 := hown.alloc (.cells #[.int .u64 ((k : Int) + 2)] 48)
            have hlc := lit_cell1 wr (.int .u64 ((k : Int) + 2)) 48
            have hb2 := hb.alloc hb.size (.cells #[.int .u64 ((k : Int) + 2)] 48)
            have hsz : (L.map U64).length + 1 ≤ 200 := by rw [List.length_map]; omega
            have hs2 : w.heap.size ≤ (wr.alloc (.cells #[.int .u64 ((k : Int) + 2)] 48)).heap.size := hb2.size
            have hone : ∀ u ∈ [Value.int .u64 ((k : Int) + 2)], u.oneCell' = true := by intro u hu; simp at hu; subst hu; rfl
            clear hall
            go_wp2_with (refine wpList_append_vals elem64 rfl _ _ rfl w.heap.size _ (.slice A L.length c) _ rfl hown2 wr.heap.size 1 1 [.int .u64 ((k : Int) + 2)] rfl rfl hlc hone (by omega) (by omega) hs2 ?_; intro v' w3 hown3 hg3 _)
            have hb3 := below_grown2 hb2 hg3 hs2 (fun g e => (hown2.lt g e).1)
            go_roundw
            case rel => exact ⟨k + 1, by omega, by go_num, by rw [HR.out, List.map_append]; exact hown3, hb3⟩
            case measure => simp [intOf]; omega
          · have HR : Hid (plist (k + 1) = L) := Lib.hid (by rw [HST.out, pstep, if_neg hall])
            have hf : L.all (fun p => (k + 2) % p != 0) = false := by simpa using hall
            rw [HT.out, hf]
            clear hall hf
            go_wp2_with fail
            go_roundw
            case rel => exact ⟨k + 1, by omega, by go_num, by rw [HR.out]; exact hown, hb⟩
            case measure => simp [intOf]; omega
    · obtain rfl : k = 310 := by omega
      have h64 := plist_at.2
      have hi : ((plist 310).length : Int) = 64 := by omega
      have HI := Lib.hid hi
      have h64i : ((plist 310).length : Int) ≥ 64 := by omega
      clear hi h64 hcell hlen
      go_wp2_with fail
      go_ret
      exact ⟨_, rfl, hown, hb⟩
end Go.Proofs.YtibkhajhmncgkaaDoor
