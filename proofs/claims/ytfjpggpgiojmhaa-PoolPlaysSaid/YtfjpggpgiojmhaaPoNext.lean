/- The reference pool's Next. -/
import Derived.Test.YtfjpggpgiojmhaaPoRel
namespace Go.Proofs.Ytfjpggpgiojmhaa
open Go.RowKit

def NextDone (P : PoolM) (L : List Int) (a : Int) (w : World) (e : Ending) (w' : World) : Prop :=
  (∃ m, w' = w.drewN m) ∧ ((P.act a = none ∧ ∃ t, e = .returned (.tuple #[.int .i64 (-1), .int .i64 t])) ∨ ∃ (j : Nat) (P' : PoolM) (t : Int), P.act a = some (j, P') ∧ e = .returned (.tuple #[.int .i64 (j : Nat), .int .i64 t]) ∧ j < L.length ∧ Rel P' (L.set j t))
structure Tied (w : World) (B g : Nat) (P : PoolM) (L : List Int) : Prop where
  ref : RefAt w B g L P.held.length P.R
  rel : Rel P L
  inv : P.Inv
theorem Tied.keep {w w' : World} {B g : Nat} {P : PoolM} {L : List Int} (h : Tied w B g P L) (h1 : w'.heap[B]? = w.heap[B]?) (h2 : w'.heap[g]? = w.heap[g]?) : Tied w' B g P L := ⟨h.ref.keep h1 h2, h.rel, h.inv⟩
theorem Tied.below {w w' : World} {B g : Nat} {P : PoolM} {L : List Int} (h : Tied w B g P L) (hb : Below w.heap.size w w') : Tied w' B g P L := ⟨h.ref.below hb, h.rel, h.inv⟩
theorem Tied.small {w : World} {B g : Nat} {P : PoolM} {L : List Int} (h : Tied w B g P L) : L.length ≤ 10000 := by rw [h.rel.len]; exact h.inv.ok.J
theorem Tied.cnt {w : World} {B g : Nat} {P : PoolM} {L : List Int} (h : Tied w B g P L) : L.count 0 + L.count 3 + (P.s - P.c) = L.length ∧ L.count 1 = P.s - P.t := by
  have h0 := h.rel.n0
  have h1 := h.rel.n1
  have h3 := h.rel.n3
  have hl := h.rel.len
  have a1 := h.inv.ok.ct
  have a2 := h.inv.ok.ts
  omega
theorem act_out {P : PoolM} {a : Int} (h : a < 0 ∨ (P.held.length : Int) + 1 < a) : P.act a = none := by
  unfold PoolM.act
  rw [if_neg (by omega), if_neg (by omega), if_neg (by omega)]
theorem act_split {P : PoolM} : P.act 0 = if P.splitB = true then some (P.s, P.split) else none := by
  unfold PoolM.act
  rw [if_pos rfl]
theorem act_coll {P : PoolM} : P.act ((P.held.length : Int) + 1) = if P.W P.c = true then some (P.c, P.collect) else none := by
  unfold PoolM.act
  rw [if_neg (by omega), if_neg (by omega), if_pos rfl]
theorem act_work {P : PoolM} (k : Nat) (hk : k < P.held.length) : P.act ((k : Int) + 1) = if P.held[k] ≠ -1 then some (P.held[k].toNat, P.back k P.held[k].toNat) else if P.t = P.s then none else some (P.t, P.take k) := by
  have e : ((k : Int) + 1 - 1).toNat = k := by omega
  have hg : P.held.getD k (-1) = P.held[k] := by simp [List.getD, hk]
  unfold PoolM.act
  rw [if_neg (by omega), if_pos (by omega), e, hg]
set_option maxRecDepth 100000 in
set_option maxHeartbeats 2000000 in
theorem Next_any (B g : Nat) (P : PoolM) (L : List Int) (a : Int) (w : World) (hT : Tied w B g P L) (ha0 : -9223372036854775808 ≤ a) (ha1 : a ≤ 9223372036854775807) :
    Calls Try.prog 22 #[PV B, .int .i64 a] w (NextDone P L a w) := by
  have HT := Lib.hid hT
  obtain ⟨c0, c1, c2⟩ := hT.ref.cells
  have hni : (P.held.length : Int) ≤ 64 := by have := hT.inv.ok.n; omega
  have hri : (P.R : Int) ≤ 64 := by have := hT.inv.ok.R; omega
  have hli : (L.length : Int) ≤ 10000 := by have := hT.small; omega
  have HM := Lib.hid (fun k n => many_quiet B g _ _ L k w n hT.ref hT.small)
  have HMA := Lib.hid (fun k => many_any B g _ _ L k w hT.ref hT.small)
  have HFA := Lib.hid (fun k n => first_any B g _ _ L k (w.drewN n) (hT.ref.keep rfl rfl) hT.small)
  have HAL := Lib.hid (fun n => ralive_quiet B g _ _ L w n hT.ref hT.small _ hT.cnt.1)
  have HC := Lib.hid hT.cnt
  clear hT
  by_cases h0 : a < 0
  · have HA : Hid (P.act a = none) := Lib.hid (act_out (.inl h0))
    go_enter Try.func22, Try.ntmps22
    go_wp2_with fail
    go_ret2
    exact ⟨⟨0, rfl⟩, .inl ⟨HA.out, _, rfl⟩⟩
  by_cases h1 : (P.held.length : Int) + 1 < a
  · have HA : Hid (P.act a = none) := Lib.hid (act_out (.inr h1))
    go_enter Try.func22, Try.ntmps22
    go_wp2_with fail
    go_ret2
    exact ⟨⟨0, rfl⟩, .inl ⟨HA.out, _, rfl⟩⟩
  by_cases h2 : a = 0
  · subst h2
    have HA := Lib.hid (act_split (P := P))
    have HM1 := Lib.hid (HM.out 1)
    obtain ⟨X, hX⟩ : ∃ X : Int, ((P.s - P.t : Nat) : Int) = X := ⟨_, rfl⟩
    obtain ⟨Y, hY⟩ : ∃ Y : Int, ((P.s - P.c : Nat) : Int) = Y := ⟨_, rfl⟩
    rw [HC.out.2, hX] at HM1
    rw [hY] at HAL
    have HS : Hid (P.splitB = (!(P.s == P.J) && !(P.s - P.t == P.R) && !(P.s - P.c == P.held.length + P.R + 1))) := Lib.hid rfl
    have hw1 : IntKind.i64.wrap ((P.held.length : Int) + (P.R : Int)) = (P.held.length : Int) + (P.R : Int) := IntWalk.i64_in _ (by omega)
    have hw2 : IntKind.i64.wrap ((P.held.length : Int) + (P.R : Int) + 1) = (P.held.length : Int) + (P.R : Int) + 1 := IntWalk.i64_in _ (by omega)
    by_cases h3 : (P.R : Int) ≤ X
    · have HNO : Hid (P.act 0 = none) := Lib.hid (by
        have h4 : (P.s - P.t == P.R) = true := by have := HT.out.inv.room; simp; omega
        rw [HA.out, HS.out, h4]; simp)
      have b1 : decide ((P.R : Int) ≤ X) = true := decide_eq_true h3
      have HXX := Lib.hid (And.intro hX hY)
      clear hX hY h3
      go_enter Try.func22, Try.ntmps22
      go_wp2_with fail
      go_quiet (exact HM1.out _)
      go_wp2_with fail
      go_ret2
      exact ⟨⟨_, rfl⟩, .inl ⟨HNO.out, _, rfl⟩⟩
    · by_cases h4 : (P.held.length : Int) + (P.R : Int) + 1 ≤ Y
      · have HNO : Hid (P.act 0 = none) := Lib.hid (by
          have h5 : (P.s - P.c == P.held.length + P.R + 1) = true := by have := HT.out.inv.alive; simp; omega
          rw [HA.out, HS.out, h5]; simp)
        have b1 : decide ((P.R : Int) ≤ X) = false := decide_eq_false h3
        have b2 : decide ((P.held.length : Int) + (P.R : Int) + 1 ≤ Y) = true := decide_eq_true h4
        have HXX := Lib.hid (And.intro hX hY)
        clear hX hY h3 h4
        go_enter Try.func22, Try.ntmps22
        go_wp2_with fail
        go_quiet (first | exact HM1.out _ | exact HAL.out _)
        go_wp2_with fail
        go_ret2
        exact ⟨⟨_, rfl⟩, .inl ⟨HNO.out, _, rfl⟩⟩
      · have b1 : decide ((P.R : Int) ≤ X) = false := decide_eq_false h3
        have b2 : decide ((P.held.length : Int) + (P.R : Int) + 1 ≤ Y) = false := decide_eq_false h4
        have HXX := Lib.hid (And.intro hX hY)
        have H34 := Lib.hid (And.intro h3 h4)
        clear hX hY h3 h4
        go_enter Try.func22, Try.ntmps22
        go_wp2_with fail
        go_quiet (first | exact HM1.out _ | exact HAL.out _)
        go_wp2_with fail
        refine (HFA.out 0 nq).mono ?_
        rintro e w1 ⟨z, rfl, hz, rfl⟩
        go_wp2_with fail
        go_ret2
        refine ⟨⟨_, rfl⟩, ?_⟩
        rcases HT.out.rel.first0 HT.out.inv hz with ⟨e1, rfl⟩ | ⟨e1, rfl⟩
        · refine .inl ⟨?_, _, rfl⟩
          rw [HA.out, HS.out, e1]; simp
        · have hy : P.splitB = true := by
            have q1 := HXX.out
            have q2 := H34.out
            have q3 := HT.out.inv.room
            have q4 := HT.out.inv.alive
            rw [HS.out]; simp; omega
          exact .inr ⟨P.s, P.split, 1, by rw [HA.out, if_pos hy], rfl, by rw [HT.out.rel.len]; exact e1, HT.out.rel.split HT.out.inv e1⟩
  by_cases h3 : a = (P.held.length : Int) + 1
  · have HA := Lib.hid (act_coll (P := P))
    have d0 : decide (a < 0) = false := decide_eq_false h0
    have d1 : decide ((P.held.length : Int) + 1 < a) = false := decide_eq_false h1
    have d2 : (a == 0) = false := beq_eq_false_iff_ne.2 h2
    have d3 : (a == (P.held.length : Int) + 1) = true := beq_iff_eq.2 h3
    rw [← h3] at HA
    clear h0 h1 h2 h3
    have HM3 := Lib.hid (HMA.out 3)
    rw [HT.out.rel.n3] at HM3
    have hci : (P.c : Int) ≤ 10000 := by have := HT.out.inv.small; omega
    by_cases h4 : (L.length : Int) ≤ (P.c : Int)
    · have HNO : Hid (P.act a = none) := Lib.hid (by
        rw [HA.out, if_neg]
        intro hW
        have q1 := (HT.out.inv.ww _ hW).2
        have q2 := HT.out.inv.ok.ts
        have q3 := HT.out.inv.ok.sJ
        have q4 := HT.out.rel.len
        omega)
      go_enter Try.func22, Try.ntmps22
      go_wp2_with fail
      refine HM3.out.mono ?_
      rintro e w1 ⟨rfl, rfl⟩
      go_wp2_with fail
      go_ret2
      exact ⟨⟨0, rfl⟩, .inl ⟨HNO.out, _, rfl⟩⟩
    · have hcl : P.c < L.length := by omega
      have hcx := (HT.out.ref.rowAt P.c hcl).1
      have hkd := HT.out.rel.class HT.out.inv P.c hcl
      cases hW : P.W P.c with
      | true =>
        have hL : L[P.c] = 2 := HT.out.rel.p2 P.c hcl (Nat.le_refl _) (HT.out.inv.ww _ hW).2 hW
        rw [hL] at hcx
        have HY : Hid (P.act a = some (P.c, P.collect)) := Lib.hid (by rw [HA.out, if_pos hW])
        have HRL := Lib.hid (HT.out.rel.collect HT.out.inv hW)
        have HCL := Lib.hid hcl
        clear hkd hW hL hcl
        go_enter Try.func22, Try.ntmps22
        go_wp2_with fail
        refine HM3.out.mono ?_
        rintro e w1 ⟨rfl, rfl⟩
        go_wp2_with fail
        go_ret2
        exact ⟨⟨0, rfl⟩, .inr ⟨_, _, _, HY.out, rfl, HCL.out, HRL.out⟩⟩
      | false =>
        have hL : ¬ L[P.c] = 2 := by
          rcases hkd with ⟨_, x⟩ | ⟨_, x⟩ | ⟨_, _, x⟩ | ⟨_, _, x, _⟩ | ⟨_, _, _, k, _, _, x⟩
          · rw [x]; decide
          · rw [x]; decide
          · rw [x]; decide
          · rw [hW] at x; cases x
          · rw [x]; omega
        have HNO : Hid (P.act a = none) := Lib.hid (by rw [HA.out, hW]; rfl)
        generalize L[P.c] = x at *
        clear hkd hW hcl
        go_enter Try.func22, Try.ntmps22
        go_wp2_with fail
        refine HM3.out.mono ?_
        rintro e w1 ⟨rfl, rfl⟩
        go_wp2_with fail
        go_ret2
        exact ⟨⟨0, rfl⟩, .inl ⟨HNO.out, _, rfl⟩⟩
  obtain ⟨k, hak, hk⟩ : ∃ k : Nat, a = (k : Int) + 1 ∧ k < P.held.length := ⟨(a - 1).toNat, by omega, by omega⟩
  have HA := Lib.hid (act_work k hk)
  have d0 : decide (a < 0) = false := decide_eq_false h0
  have d1 : decide ((P.held.length : Int) + 1 < a) = false := decide_eq_false h1
  have d2 : (a == 0) = false := beq_eq_false_iff_ne.2 h2
  have d3 : (a == (P.held.length : Int) + 1) = false := beq_eq_false_iff_ne.2 h3
  have d4 : 0 < a := by omega
  have d5 : a ≤ 66 := by omega
  have HMH := Lib.hid (HT.out.rel.manyH HT.out.inv k hk)
  have HFH := Lib.hid (fun hne z (hz : FirstIs L (-((k : Int) + 1)) z) => HT.out.rel.firstH HT.out.inv k hk hne hz)
  have HMK := Lib.hid (HMA.out (-((k : Int) + 1)))
  have HFK := Lib.hid (HFA.out (-((k : Int) + 1)) 0)
  have HF1 := Lib.hid (HFA.out 1 0)
  have HHH := Lib.hid (HT.out.inv.hh k hk)
  have hcl : (L.count (-((k : Int) + 1)) : Int) ≤ 10000 := by have : L.count (-((k : Int) + 1)) ≤ L.length := List.count_le_length; omega
  clear HMA HFA HM HAL
  rw [← hak] at HA HMH HFH HMK HFK hcl
  have hHAK := Lib.hid hak
  clear hak h0 h1 h2 h3
  by_cases h5 : P.held[k] = -1
  · have hz : L.count (-a) = 0 := by
      have := HMH.out
      rw [h5] at this
      simp at this
      exact List.count_eq_zero.2 this
    rw [hz] at HMK
    have HH := Lib.hid h5
    clear hcl hz h5
    go_enter Try.func22, Try.ntmps22
    go_wp2_with fail
    refine HMK.out.mono ?_
    rintro e w1 ⟨rfl, rfl⟩
    go_wp2_with fail
    refine HF1.out.mono ?_
    rintro e w1 ⟨z, rfl, hz, rfl⟩
    go_wp2_with fail
    go_ret2
    refine ⟨⟨0, rfl⟩, ?_⟩
    rcases HT.out.rel.first1 HT.out.inv hz with ⟨e1, rfl⟩ | ⟨e1, rfl⟩
    · refine .inl ⟨?_, _, rfl⟩
      rw [HA.out, if_neg (by rw [HH.out]; decide), if_pos e1]
    · exact .inr ⟨P.t, P.take k, _, by rw [HA.out, if_neg (by rw [HH.out]; decide), if_neg (by omega)], rfl, by rw [HT.out.rel.len]; have := HT.out.inv.ok.sJ; omega, by rw [hHAK.out]; exact HT.out.rel.take HT.out.inv k e1⟩
  · have hz : 0 < (L.count (-a) : Int) := by have := HMH.out.2 h5; omega
    obtain ⟨j, hj⟩ : ∃ j : Nat, P.held[k] = (j : Int) := by
      rcases HHH.out with e | ⟨j, e, _⟩
      · exact absurd e h5
      · exact ⟨j, e⟩
    have HJ := Lib.hid hj
    have HNE := Lib.hid h5
    generalize L.count (-a) = x at *
    clear h5 hj HHH
    go_enter Try.func22, Try.ntmps22
    go_wp2_with fail
    refine HMK.out.mono ?_
    rintro e w1 ⟨rfl, rfl⟩
    go_wp2_with fail
    refine HFK.out.mono ?_
    rintro e w1 ⟨z, rfl, hz, rfl⟩
    go_wp2_with fail
    go_ret2
    have e1 := HFH.out HNE.out z hz
    rw [HJ.out] at e1
    subst e1
    have hj' : j < L.length := by
      rcases HT.out.inv.hh k hk with e | ⟨j', e, _, e2, _⟩
      · exact absurd e HNE.out
      · rw [HJ.out] at e
        have := HT.out.inv.ok.ts
        have := HT.out.inv.ok.sJ
        rw [HT.out.rel.len]; omega
    refine ⟨⟨0, rfl⟩, .inr ⟨j, P.back k j, _, ?_, rfl, hj', HT.out.rel.back HT.out.inv k j hk HJ.out⟩⟩
    rw [HA.out, if_pos HNE.out, HJ.out]
    rfl
end Go.Proofs.Ytfjpggpgiojmhaa
