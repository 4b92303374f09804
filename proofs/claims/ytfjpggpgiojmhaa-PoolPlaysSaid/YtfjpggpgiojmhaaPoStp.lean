/- pool's Step, Enabled. -/
import Derived.Test.YtfjpggpgiojmhaaPoFun
namespace Go.Proofs.Ytfjpggpgiojmhaa
open Go.RowKit

def ActDone (B hb mb : Nat) (P : PoolM) (a : Int) (w : World) (e : Ending) (w' : World) : Prop :=
  PFr B hb mb w w' ∧ ((P.act a = none ∧ e = .returned (.tuple #[.int .i64 0, .int .i64 1]) ∧ PoolAt w' B hb mb P) ∨ (∃ j P', P.act a = some (j, P') ∧ e = .returned (.tuple #[.int .i64 (j : Nat), .int .i64 0]) ∧ PoolAt w' B hb mb P'))
theorem apart_of {w : World} {B hb mb b : Nat} {P : PoolM} (h : PoolAt w B hb mb P) (hl : w.heap.size ≤ b) : Apart b B hb mb := by
  have := h.lt
  exact ⟨by omega, by omega, by omega⟩
set_option maxRecDepth 100000 in
set_option maxHeartbeats 1000000 in
theorem Step_any (B hb mb : Nat) (P : PoolM) (a : Int) (w : World) (hP : PoolAt w B hb mb P) (hI : P.Inv) (ha0 : -9223372036854775808 ≤ a) (ha1 : a ≤ 9223372036854775807) :
    Calls Try.prog 11 #[PV B, .int .i64 a] w (ActDone B hb mb P a w) := by
  have HS := Lib.hid (step_any B hb mb P a w hP hI ha0 ha1)
  have HI := Lib.hid hI
  have HP := Lib.hid hP
  have hsm := Lib.hid hI.small
  go_enter Try.func11, Try.ntmps11
  go_wp2_with fail
  refine HS.out.mono ?_
  rintro e w1 ⟨v, rfl, hb1, ⟨hA, rfl⟩ | ⟨hA, b1, rfl, hx, hl⟩ | ⟨k, j, hkl, hjt, hjw, hA, b1, b2, b3, rfl, hx1, hx2, hx3, hl1, hl2, hl3⟩ | ⟨k, hkl, hA, b1, b2, rfl, hx1, hx2, hl1, hl2⟩ | ⟨hA, hW, b1, rfl, hx, hl⟩⟩
  · have hq := nil_eq w1
    go_wp2_with fail
    go_ret2
    exact ⟨PFr.of hb1, .inl ⟨hA, rfl, HP.out.below hb1⟩⟩
  · have HC := Lib.hid (split1_any b1 B hb mb P w1 hx (apart_of HP.out hl) (HP.out.below hb1) (by have := hsm.out; omega))
    have hq := func_eq
    go_wp2_with fail
    refine HC.out.mono ?_
    rintro e w2 ⟨rfl, hP2, hf2⟩
    go_wp2_with fail
    go_ret2
    exact ⟨(PFr.of hb1).trans hf2, .inr ⟨_, _, hA, rfl, hP2⟩⟩
  · have HC := Lib.hid (back1_any b1 b2 b3 B hb mb k j P w1 hx1 hx2 hx3 (apart_of HP.out hl1) (apart_of HP.out hl2) (apart_of HP.out hl3) (HP.out.below hb1) hkl HI.out.ok.n (by have := hsm.out; omega) (by have := hsm.out; omega) hjw)
    have hq := func_eq
    go_wp2_with fail
    refine HC.out.mono ?_
    rintro e w2 ⟨rfl, hP2, hf2⟩
    go_wp2_with fail
    go_ret2
    exact ⟨(PFr.of hb1).trans hf2, .inr ⟨_, _, hA, rfl, hP2⟩⟩
  · have HC := Lib.hid (take1_any b1 b2 B hb mb k P w1 hx1 hx2 (apart_of HP.out hl1) (apart_of HP.out hl2) (HP.out.below hb1) hkl HI.out.ok.n (by have := hsm.out; omega))
    have hq := func_eq
    go_wp2_with fail
    refine HC.out.mono ?_
    rintro e w2 ⟨rfl, hP2, hf2⟩
    go_wp2_with fail
    go_ret2
    exact ⟨(PFr.of hb1).trans hf2, .inr ⟨_, _, hA, rfl, hP2⟩⟩
  · have HC := Lib.hid (collect1_any b1 B hb mb P w1 hx (apart_of HP.out hl) (HP.out.below hb1) (by have := hsm.out; omega) hW)
    have hq := func_eq
    go_wp2_with fail
    refine HC.out.mono ?_
    rintro e w2 ⟨rfl, hP2, hf2⟩
    go_wp2_with fail
    go_ret2
    exact ⟨(PFr.of hb1).trans hf2, .inr ⟨_, _, hA, rfl, hP2⟩⟩
theorem StepV.two {B lo : Nat} {P : PoolM} {a : Int} {w : World} {v : Value} (h : StepV B lo P a w v) : ((P.act a).isSome = false ∧ v = .nilFunc) ∨ ((P.act a).isSome = true ∧ ∃ f x y, v = .func f x y) := by
  rcases h with ⟨h, rfl⟩ | ⟨h, b1, rfl, _⟩ | ⟨k, j, _, _, _, h, b1, b2, b3, rfl, _⟩ | ⟨k, _, h, b1, b2, rfl, _⟩ | ⟨h, _, b1, rfl, _⟩
  · exact .inl ⟨by rw [h]; rfl, rfl⟩
  · exact .inr ⟨by rw [h]; rfl, _, _, _, rfl⟩
  · exact .inr ⟨by rw [h]; rfl, _, _, _, rfl⟩
  · exact .inr ⟨by rw [h]; rfl, _, _, _, rfl⟩
  · exact .inr ⟨by rw [h]; rfl, _, _, _, rfl⟩
theorem elemInt : Elem 22 3 (.int .i64 0) 8 := ⟨Try.underlying22, by kernel_rfl, rfl⟩
/-- The actors below j that may go on. -/
def PoolM.enab (P : PoolM) (j : Nat) : List Nat := (List.range j).filter fun a => (P.act (a : Nat)).isSome
def intsV (l : List Nat) : List Value := l.map fun a => Value.int .i64 (a : Nat)
theorem enab_succ (P : PoolM) (j : Nat) : P.enab (j + 1) = P.enab j ++ (if (P.act (j : Nat)).isSome then [j] else []) := by
  unfold PoolM.enab
  rw [List.range_succ, List.filter_append]
  congr 1
  simp only [List.filter_cons, List.filter_nil]
theorem enab_len (P : PoolM) (j : Nat) : (P.enab j).length ≤ j := by
  have := List.length_filter_le (fun a : Nat => (P.act (a : Nat)).isSome) (List.range j)
  rwa [List.length_range] at this
theorem intsV_len (l : List Nat) : (intsV l).length = l.length := by simp [intsV]
theorem intsV_snoc (l : List Nat) (j : Nat) : intsV (l ++ [j]) = intsV l ++ [.int .i64 (j : Nat)] := by simp [intsV]
def IntsDone (l : List Nat) (w : World) (e : Ending) (w' : World) : Prop := ∃ v, e = .returned v ∧ OwnV 3 w.heap.size w' v (intsV l) ∧ Below w.heap.size w w'
set_option maxRecDepth 100000 in
set_option maxHeartbeats 1000000 in
theorem Enabled_any (B hb mb : Nat) (P : PoolM) (w : World) (hP : PoolAt w B hb mb P) (hI : P.Inv) :
    Calls Try.prog 9 #[PV B] w (IntsDone (P.enab (P.held.length + 2)) w) := by
  have hni : (P.held.length : Int) ≤ 64 := by have := hI.ok.n; omega
  have HCO := Lib.hid (collector_any B hb mb P w hP hI.ok.n)
  have HI := Lib.hid hI
  have HP := Lib.hid hP
  go_enter Try.func9, Try.ntmps9
  go_wp2_with fail
  refine HCO.out.mono ?_
  rintro e w1 ⟨rfl, rfl⟩
  go_wp2_with fail
  go_loopw [3, 10] (fun lv i wr => ∃ j : Nat, j ≤ P.held.length + 2 ∧ i = .int .i64 (j : Nat) ∧ Hid (OwnV 3 w.heap.size wr lv (intsV (P.enab j))) ∧ Hid (Below w.heap.size w wr)) (fun _ i _ => P.held.length + 2 - (intOf i).toNat)
  case atStart => exact ⟨0, by omega, rfl, Lib.hid (OwnV.nil _ _ _), Lib.hid (Below.refl _ _)⟩
  case round =>
    obtain ⟨j, hj, rfl, HOW, HBR⟩ := hrel
    by_cases hjl : j < P.held.length + 2
    · have hji : (j : Int) < (P.held.length : Int) + 1 + 1 := by omega
      have HS := Lib.hid (step_any B hb mb P (j : Nat) wr (HP.out.below HBR.out) HI.out (by omega) (by omega))
      have HEN := Lib.hid (enab_succ P j)
      have HEL := Lib.hid (enab_len P j)
      have hni2 : P.held.length ≤ 64 := hI.ok.n
      go_wp2_with fail
      refine HS.out.mono ?_
      rintro e w1 ⟨v, rfl, hb1, hv⟩
      have hb01 : Below w.heap.size w w1 := HBR.out.trans (hb1.mono HBR.out.size)
      have how1 := HOW.out.below hb1
      rcases hv.two with ⟨hA, rfl⟩ | ⟨hA, f, x, y, rfl⟩
      · rw [hA] at HEN
        have hq := nil_ne w1
        have HE2 : Hid (P.enab (j + 1) = P.enab j) := Lib.hid (by rw [HEN.out]; simp)
        have HH := Lib.hid (And.intro hb01 how1)
        clear hv hA hb1 hb01 how1
        go_wp2_with fail
        exact ⟨⟨j + 1, by omega, by go_num, Lib.hid (by rw [HE2.out]; exact HH.out.2), Lib.hid HH.out.1⟩, by simp [intOf]; omega⟩
      · rw [hA] at HEN
        have hq := func_ne f x y w1
        have HE2 : Hid (P.enab (j + 1) = P.enab j ++ [j]) := Lib.hid (by rw [HEN.out]; simp)
        have hbA := hb01.alloc hb01.size (.cells #[.int .i64 (j : Nat)] 3)
        have howA := how1.alloc (.cells #[.int .i64 (j : Nat)] 3)
        have hcA := lit_cell1 w1 (.int .i64 (j : Nat)) 3
        have h1A : ∀ u ∈ [Value.int .i64 (j : Nat)], u.oneCell' = true := by intro u hu; rw [List.mem_singleton.1 hu]; rfl
        have hsz : ((intsV (P.enab j)).length + 1) * 8 ≤ 140737488355328 := by rw [intsV_len]; have := HEL.out; omega
        have h63 : (intsV (P.enab j)).length + 1 ≤ 140737488355328 := by omega
        have hsA := hbA.size
        have HBA := Lib.hid hbA
        clear hv hA hb1 hb01 how1 hbA
        go_wp2_with (at_builtin; refine wpList_append_vals elemInt rfl (.tmp 17) (.tmp 19) rfl w.heap.size _ u3 (intsV (P.enab j)) rfl howA w1.heap.size 1 1 [.int .i64 (j : Nat)] rfl rfl hcA h1A hsz h63 hsA ?_; intro v3 w3 ho3 hg3 _)
        have hb3 : Below w.heap.size w w3 := below_grown HBA.out hg3 HBA.out.size (fun g e => (howA.lt g e).1)
        exact ⟨⟨j + 1, by omega, by go_num, Lib.hid (by rw [HE2.out, intsV_snoc]; exact ho3), Lib.hid hb3⟩, by simp [intOf]; omega⟩
    · obtain rfl : j = P.held.length + 2 := by omega
      go_wp2_with fail
      go_ret
      exact ⟨_, rfl, HOW.out, HBR.out⟩
end Go.Proofs.Ytfjpggpgiojmhaa
