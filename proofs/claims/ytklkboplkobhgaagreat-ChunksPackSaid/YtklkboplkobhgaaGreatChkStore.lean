/- Chunks: the control byte; a part that is stored. -/
import Derived.Test.YtklkboplkobhgaaGreatChkMem
import Derived.Deep.CutBlock
import Derived.Deep.DeepCutAuto
namespace Go.Proofs.YtklkboplkobhgaaGreat
set_option maxRecDepth 100000
open Go.RowKit

def ctlB (a : Nat) (had : Bool) (s : CodS) : UInt8 := if a = 0 then 224 else if had = false then 192 else if s.isNone = true then 160 else 128
set_option maxHeartbeats 1000000 in
theorem control_any {w : World} {p : Nat} {k : PkS} {s : CodS} {had : Bool} {Y : List Nat} (h : Pk w p k s had Y) (a : Nat) :
    Calls Tryz.prog 23 #[PF p, .int .i64 (a : Nat)] w fun e w' => e = .returned (B8 (ctlB a had s)) ∧ w = w' := by
  obtain ⟨cv, hP, hC⟩ := h.ex
  have c11 := hP.cod
  have c12 := hP.had_
  clear h hP
  by_cases ha : a = 0
  · subst ha
    have HV : Hid (B8 (ctlB 0 had s) = .int .u8 224) := Lib.hid rfl
    go_enter Tryz.func23, Tryz.ntmps23
    go_wp2_with fail
    go_ret
    exact ⟨congrArg Ending.returned HV.out.symm, rfl⟩
  · have h0 : ((a : Int) == 0) = false := by rw [beq_eq_false_iff_ne]; omega
    cases had with
    | false =>
      have HV : Hid (B8 (ctlB a false s) = .int .u8 192) := Lib.hid (by unfold ctlB; rw [if_neg ha]; rfl)
      clear ha
      go_enter Tryz.func23, Tryz.ntmps23
      go_wp2_with fail
      go_ret
      exact ⟨congrArg Ending.returned HV.out.symm, rfl⟩
    | true =>
      cases s with
      | none =>
        obtain ⟨rfl, _⟩ := hC
        have HV : Hid (B8 (ctlB a true none) = .int .u8 160) := Lib.hid (by unfold ctlB; rw [if_neg ha]; rfl)
        clear ha
        go_enter Tryz.func23, Tryz.ntmps23
        go_wp2_with fail
        go_ret
        exact ⟨congrArg Ending.returned HV.out.symm, rfl⟩
      | some s =>
        obtain ⟨C, L, rfl, _, _⟩ := hC
        have HV : Hid (B8 (ctlB a true (some s)) = .int .u8 128) := Lib.hid (by unfold ctlB; rw [if_neg ha]; rfl)
        clear ha
        go_enter Tryz.func23, Tryz.ntmps23
        go_wp2_with fail
        go_ret
        exact ⟨congrArg Ending.returned HV.out.symm, rfl⟩
/-- A part that is stored. -/
def storeOf (D : List UInt8) (a b : Nat) : List UInt8 := ((if a = 0 then 1 else 2) :: twoB (b - a - 1)) ++ (D.drop a).take (b - a)
def StoreDone (w : World) (p : Nat) (k : PkS) (had : Bool) (l : List UInt8) (e : Ending) (w' : World) : Prop := ∃ v, e = .returned v ∧ Own w.heap.size w' v l ∧ Pk w' p k none had [] ∧ Only [p] w w'
set_option maxRecDepth 100000 in
set_option maxHeartbeats 2000000 in
theorem store_any {w : World} {p : Nat} {k : PkS} {s : CodS} {had : Bool} {Y : List Nat} (h : Pk w p k s had Y) {bD oD : Nat} (hA : k.A = some ⟨bD, oD, none⟩) (hB : Bytes w k.A k.D) (hpD : bD ≠ p) (hc : k.D.length ≤ k.cD) (hl : k.D.length ≤ 100000) (a b : Nat) (hab : a < b) (hb : b ≤ k.D.length) :
    Calls Tryz.prog 27 #[PF p, .int .i64 (a : Nat), .int .i64 (b : Nat)] w (StoreDone w p k had (storeOf k.D a b)) := by
  obtain ⟨cv, hP, _⟩ := h.ex
  have hlt := hP.lt
  have hP1 := hP.setCod (.pointer none)
  have c11 := hP.cod
  have f11 := hP.frozen 11
  obtain ⟨W1, hW1⟩ : ∃ W1, w.setCell ⟨p, 11, none⟩ (.pointer none) = W1 := ⟨_, rfl⟩
  have hon1 : Only [p] w W1 := by rw [← hW1]; exact (Only.refl _ _).setCell (.inl (by simp)) _
  have hs1 : W1.heap.size = w.heap.size := by rw [← hW1]; simp [World.setCell]
  rw [hW1] at hP1
  have hB1 : Bytes W1 k.A k.D := hB.only hon1 (fun a ha => by rw [hA] at ha; injection ha with ha; subst ha; simpa using hpD)
  obtain ⟨D, hD⟩ : ∃ D, k.D = D := ⟨_, rfl⟩
  have hcd := hP1.data
  rw [hD] at hc hl hb hB1 hcd ⊢
  rw [hA] at hcd hB1
  obtain ⟨cD, hcD⟩ : ∃ c, k.cD = c := ⟨_, rfl⟩
  rw [hcD] at hc hcd
  obtain ⟨x, hx⟩ : ∃ x : UInt8, (if a = 0 then 1 else 2) = x := ⟨_, rfl⟩
  obtain ⟨R, hR⟩ : ∃ R, storeOf D a b = R := ⟨_, rfl⟩
  have hst : ([x] ++ twoB (b - a - 1)) ++ (D.drop a).take (b - a) = R := by rw [← hR]; unfold storeOf; rw [hx]; rfl
  rw [hR]
  obtain ⟨T, hT⟩ : ∃ T, (D.drop a).take (b - a) = T := ⟨_, rfl⟩
  rw [hT] at hst
  have hTl : T.length = b - a := by rw [← hT, List.length_take, List.length_drop]; omega
  have hai : (a : Int) < (b : Int) := by omega
  have hbi : (b : Int) ≤ (D.length : Int) := by omega
  have hli : (D.length : Int) ≤ 100000 := by omega
  have hci : (D.length : Int) ≤ (cD : Int) := by omega
  have hba : (b : Int) - (a : Int) = ((b - a - 1 + 1 : Nat) : Int) := by omega
  obtain ⟨W2, hW2⟩ : ∃ W2, W1.alloc (.cells #[B8 x] 5) = W2 := ⟨_, rfl⟩
  have ho2 : Own W1.heap.size W2 (.slice (some ⟨W1.heap.size, 0, none⟩) 1 1) [x] := by rw [← hW2]; exact Own.lit W1 [x] (Nat.le_refl _) (by simp)
  have hb2 : Below W1.heap.size W1 W2 := by rw [← hW2]; exact (Below.refl _ _).alloc (Nat.le_refl _) _
  have HT := Lib.hid (twoBytes_any (b - a - 1) (by omega) W2)
  obtain ⟨T2, hT2⟩ : ∃ T2, twoB (b - a - 1) = T2 := ⟨_, rfl⟩
  have hT2l : T2.length = 2 := by rw [← hT2]; rfl
  rw [hT2] at HT hst
  have HT2 := Lib.hid hT2l
  clear hT2 hT2l
  rw [← hba] at HT
  have HW1 := Lib.hid hW1
  have HW2 := Lib.hid hW2
  have HO2 := Lib.hid ho2
  have HB2 := Lib.hid hb2
  have HON := Lib.hid hon1
  have HS1 := Lib.hid hs1
  have HST := Lib.hid hst
  have HTT := Lib.hid (And.intro hT hTl)
  have HP1 := Lib.hid hP1
  have HBY := Lib.hid hB1
  have HL := Lib.hid (And.intro hab (And.intro hb (And.intro hl hc)))
  have HCD := Lib.hid hcd
  have HAB := Lib.hid hba
  have HDD := Lib.hid (And.intro hA (And.intro hD hcD))
  have HPL := Lib.hid hlt
  clear h hP hP1 hW1 hW2 ho2 hb2 hon1 hs1 hB1 hB hA hD hcD hc hl hb hab hst hcd hba hlt hpD hR hT hTl
  have hx2 : (a = 0 ∧ x = 1) ∨ (a ≠ 0 ∧ x = 2) := by
    by_cases e : a = 0
    · left; rw [if_pos e] at hx; exact ⟨e, hx.symm⟩
    · right; rw [if_neg e] at hx; exact ⟨e, hx.symm⟩
  clear hx
  have HX : Hid (∀ (e : Ending) (w' : World), ∀ v4 w4 v5, Own W1.heap.size w4 v4 ([x] ++ T2) → Below W1.heap.size W1 w4 → Own W1.heap.size w' v5 (([x] ++ T2) ++ T) → w4.grownBy w' v4.ownBlock → e = .returned v5 → StoreDone w p k had R e w') := Lib.hid (by
    rintro e w' v4 w4 v5 ho4 hb4 ho5 hg5 rfl
    have hb5 : Below W1.heap.size W1 w' := below_grown hb4 hg5 hb4.size (fun g e => (ho4.from_base g e).1)
    rw [HST.out] at ho5
    refine ⟨v5, rfl, by rw [← HS1.out]; exact ho5, ⟨_, HP1.out.below hb5, rfl, rfl⟩, ?_⟩
    exact HON.out.trans (Only.of_below hb5) (fun i hi => .inl hi))
  have hfin := HX.out
  clear HX
  have HX := Lib.hid hfin
  clear hfin
  have HBS := Lib.hid (show Bytes W1 (some ⟨bD, oD + a, none⟩) T from by rw [← HTT.out.1]; exact (HBY.out.drop a).take _)
  rcases hx2 with ⟨ha, rfl⟩ | ⟨ha, rfl⟩
  · have h0 : ((a : Int) == 0) = true := by rw [beq_iff_eq]; omega
    clear ha
    go_enter Tryz.func27, Tryz.ntmps27
    go_upto_region 2 with fail
    rw [HW1.out]
    clear c11 f11
    go_wp2_with fail
    rw [show W1.alloc (Obj.cells #[Value.int .u8 1] 5) = W2 from HW2.out]
    refine HT.out.mono ?_
    rintro e w3 ⟨v3, rfl, ho3, hb3⟩
    obtain ⟨A3, c3, rfl, _, _, hB3⟩ := ho3.read
    have HB3 := Lib.hid (HB2.out.trans (hb3.mono HB2.out.size))
    have HO23 := Lib.hid (HO2.out.below hb3)
    have HBB3 := Lib.hid hB3
    clear ho3 hb3 hB3
    go_upto_region 6 with (at_builtin; refine wpList_append_bytes ?_ (.tmp 15) (.tmp 19) ?_ W1.heap.size w3 (.slice (some ⟨W1.heap.size, 0, none⟩) 1 1) [1] ?_ HO23.out A3 T2 c3 ?_ HBB3.out (by rw [HT2.out]; decide) HB3.out.size ?_; rfl; rfl; rfl; rfl; intro v4 w4 ho4 hg4; have HO4 := Lib.hid ho4; have HB4 := Lib.hid (below_grown HB3.out hg4 HB3.out.size (fun g e => (HO23.out.from_base g e).1)); have hcd := ((HP1.out.below HB4.out).data); rw [HDD.out.1, HDD.out.2.1, HDD.out.2.2] at hcd; clear ho4 hg4)
    go_wp2_with (at_builtin; refine wpList_append_bytes ?_ (.tmp 21) (.tmp 28) ?_ W1.heap.size w4 v4 ([1] ++ T2) ?_ HO4.out (some ⟨bD, oD + a, none⟩) T (cD - a) ?_ (HBS.out.below HB4.out) (by rw [HTT.out.2]; have := HL.out; rw [List.length_append, HT2.out]; simp; omega) HB4.out.size ?_; rfl; rfl; rfl; rw [HTT.out.2]; rfl; intro v5 w5 ho5 hg5; have HFIN := Lib.hid (HX.out _ _ v4 w4 v5 HO4.out HB4.out ho5 hg5 rfl); clear ho5 hg5)
    go_ret
    exact HFIN.out
  · have h0 : ((a : Int) == 0) = false := by rw [beq_eq_false_iff_ne]; omega
    clear ha
    go_enter Tryz.func27, Tryz.ntmps27
    go_upto_region 2 with fail
    rw [HW1.out]
    clear c11 f11
    go_wp2_with fail
    rw [show W1.alloc (Obj.cells #[Value.int .u8 2] 5) = W2 from HW2.out]
    refine HT.out.mono ?_
    rintro e w3 ⟨v3, rfl, ho3, hb3⟩
    obtain ⟨A3, c3, rfl, _, _, hB3⟩ := ho3.read
    have HB3 := Lib.hid (HB2.out.trans (hb3.mono HB2.out.size))
    have HO23 := Lib.hid (HO2.out.below hb3)
    have HBB3 := Lib.hid hB3
    clear ho3 hb3 hB3
    go_upto_region 6 with (at_builtin; refine wpList_append_bytes ?_ (.tmp 15) (.tmp 19) ?_ W1.heap.size w3 (.slice (some ⟨W1.heap.size, 0, none⟩) 1 1) [2] ?_ HO23.out A3 T2 c3 ?_ HBB3.out (by rw [HT2.out]; decide) HB3.out.size ?_; rfl; rfl; rfl; rfl; intro v4 w4 ho4 hg4; have HO4 := Lib.hid ho4; have HB4 := Lib.hid (below_grown HB3.out hg4 HB3.out.size (fun g e => (HO23.out.from_base g e).1)); have hcd := ((HP1.out.below HB4.out).data); rw [HDD.out.1, HDD.out.2.1, HDD.out.2.2] at hcd; clear ho4 hg4)
    go_wp2_with (at_builtin; refine wpList_append_bytes ?_ (.tmp 21) (.tmp 28) ?_ W1.heap.size w4 v4 ([2] ++ T2) ?_ HO4.out (some ⟨bD, oD + a, none⟩) T (cD - a) ?_ (HBS.out.below HB4.out) (by rw [HTT.out.2]; have := HL.out; rw [List.length_append, HT2.out]; simp; omega) HB4.out.size ?_; rfl; rfl; rfl; rw [HTT.out.2]; rfl; intro v5 w5 ho5 hg5; have HFIN := Lib.hid (HX.out _ _ v4 w4 v5 HO4.out HB4.out ho5 hg5 rfl); clear ho5 hg5)
    go_ret
    exact HFIN.out
end Go.Proofs.YtklkboplkobhgaaGreat
