/- The reference pool's Step, Enabled. -/
import Derived.Test.YtfjpggpgiojmhaaPoNext
namespace Go.Proofs.Ytfjpggpgiojmhaa
open Go.RowKit

def RStepDone (P : PoolM) (L : List Int) (g : Nat) (a : Int) (w : World) (e : Ending) (w' : World) : Prop :=
  (P.act a = none ∧ e = .returned (.int .i64 (-1)) ∧ ∃ m, w' = w.drewN m) ∨
  ∃ (j : Nat) (P' : PoolM) (t : Int) (m : Nat), P.act a = some (j, P') ∧ e = .returned (.int .i64 (j : Nat)) ∧ j < L.length ∧ Rel P' (L.set j t) ∧ w' = (w.drewN m).setCell ⟨g, j, none⟩ (.int .i64 t)
set_option maxRecDepth 100000 in
set_option maxHeartbeats 1000000 in
theorem rstep_any (B g : Nat) (P : PoolM) (L : List Int) (a : Int) (w : World) (hT : Tied w B g P L) (ha0 : -9223372036854775808 ≤ a) (ha1 : a ≤ 9223372036854775807) :
    Calls Try.prog 12 #[PV B, .int .i64 a] w (RStepDone P L g a w) := by
  have HN := Lib.hid (Next_any B g P L a w hT ha0 ha1)
  obtain ⟨c0, _, _⟩ := hT.ref.cells
  have hli : (L.length : Int) ≤ 10000 := by have := hT.small; omega
  have HT := Lib.hid hT
  clear hT ha0 ha1
  go_enter Try.func12, Try.ntmps12
  go_wp2_with fail
  refine HN.out.mono ?_
  rintro e w1 ⟨⟨m, rfl⟩, ⟨hA, t, rfl⟩ | ⟨j, P', t, hA, rfl, hj, hr⟩⟩
  · have HA := Lib.hid hA
    clear hA
    go_wp2_with fail
    go_ret
    exact .inl ⟨HA.out, rfl, _, rfl⟩
  · obtain ⟨c1, f1⟩ := HT.out.ref.rowAt j hj
    have HA := Lib.hid (And.intro hA (And.intro hj hr))
    have hji : (j : Int) < (L.length : Int) := by omega
    generalize L[j] = x at *
    clear hA hr
    go_wp2_with fail
    go_ret
    exact .inr ⟨j, P', t, m, HA.out.1, rfl, HA.out.2.1, HA.out.2.2, rfl⟩
set_option maxRecDepth 100000 in
set_option maxHeartbeats 1000000 in
theorem renabled_any (B g : Nat) (P : PoolM) (L : List Int) (w : World) (hT : Tied w B g P L) :
    Calls Try.prog 10 #[PV B] w (IntsDone (P.enab (P.held.length + 2)) w) := by
  have hni : (P.held.length : Int) ≤ 64 := by have := hT.inv.ok.n; omega
  have hni2 : P.held.length ≤ 64 := hT.inv.ok.n
  have HT := Lib.hid hT
  clear hT
  go_enter Try.func10, Try.ntmps10
  go_wp2_with fail
  go_loopw [3, 4] (fun lv i wr => ∃ j : Nat, j ≤ P.held.length + 2 ∧ i = .int .i64 (j : Nat) ∧ Hid (OwnV 3 w.heap.size wr lv (intsV (P.enab j))) ∧ Hid (Below w.heap.size w wr)) (fun _ i _ => P.held.length + 2 - (intOf i).toNat)
  case atStart => exact ⟨0, by omega, rfl, Lib.hid (OwnV.nil _ _ _), Lib.hid (Below.refl _ _)⟩
  case round =>
    obtain ⟨j, hj, rfl, HOW, HBR⟩ := hrel
    have HTR := Lib.hid (HT.out.below HBR.out)
    obtain ⟨_, c1, _⟩ := HTR.out.ref.cells
    by_cases hjl : j < P.held.length + 2
    · have hji : (j : Int) ≤ (P.held.length : Int) + 1 := by omega
      have HS := Lib.hid (Next_any B g P L (j : Nat) wr HTR.out (by omega) (by omega))
      have HEN := Lib.hid (enab_succ P j)
      have HEL := Lib.hid (enab_len P j)
      go_wp2_with fail
      refine HS.out.mono ?_
      rintro e w1 ⟨⟨m, rfl⟩, ⟨hA, t, rfl⟩ | ⟨j', P', t, hA, rfl, hj', hr⟩⟩
      · rw [hA] at HEN
        have HE2 : Hid (P.enab (j + 1) = P.enab j) := Lib.hid (by rw [HEN.out]; simp)
        clear hA
        go_wp2_with fail
        exact ⟨⟨j + 1, by omega, by go_num, Lib.hid (by rw [HE2.out]; exact HOW.out.drewN m), Lib.hid (below_drewN HBR.out m)⟩, by simp [intOf]; omega⟩
      · rw [hA] at HEN
        have HE2 : Hid (P.enab (j + 1) = P.enab j ++ [j]) := Lib.hid (by rw [HEN.out]; simp)
        obtain ⟨w1, hw1⟩ : ∃ w1, wr.drewN m = w1 := ⟨_, rfl⟩
        have hb01 : Below w.heap.size w w1 := hw1 ▸ below_drewN HBR.out m
        have how1 : OwnV 3 w.heap.size w1 u3 (intsV (P.enab j)) := hw1 ▸ HOW.out.drewN m
        rw [hw1]
        have hbA := hb01.alloc hb01.size (.cells #[.int .i64 (j : Nat)] 3)
        have howA := how1.alloc (.cells #[.int .i64 (j : Nat)] 3)
        have hcA := lit_cell1 w1 (.int .i64 (j : Nat)) 3
        have h1A : ∀ u ∈ [Value.int .i64 (j : Nat)], u.oneCell' = true := by intro u hu; rw [List.mem_singleton.1 hu]; rfl
        have hsz : ((intsV (P.enab j)).length + 1) * 8 ≤ 140737488355328 := by rw [intsV_len]; have := HEL.out; omega
        have h63 : (intsV (P.enab j)).length + 1 ≤ 140737488355328 := by omega
        have hsA := hbA.size
        have HBA := Lib.hid hbA
        clear hA hb01 how1 hbA hw1 hj' hr
        go_wp2_with (at_builtin; refine wpList_append_vals elemInt rfl (.tmp 24) (.tmp 26) rfl w.heap.size _ u3 (intsV (P.enab j)) rfl howA w1.heap.size 1 1 [.int .i64 (j : Nat)] rfl rfl hcA h1A hsz h63 hsA ?_; intro v3 w3 ho3 hg3 _)
        have hb3 : Below w.heap.size w w3 := below_grown HBA.out hg3 HBA.out.size (fun g e => (howA.lt g e).1)
        exact ⟨⟨j + 1, by omega, by go_num, Lib.hid (by rw [HE2.out, intsV_snoc]; exact ho3), Lib.hid hb3⟩, by simp [intOf]; omega⟩
    · obtain rfl : j = P.held.length + 2 := by omega
      have hjn : ¬ ((P.held.length : Int) + 2 ≤ (P.held.length : Int) + 1) := by omega
      go_wp2_with fail
      go_ret
      exact ⟨_, rfl, HOW.out, HBR.out⟩
end Go.Proofs.Ytfjpggpgiojmhaa
