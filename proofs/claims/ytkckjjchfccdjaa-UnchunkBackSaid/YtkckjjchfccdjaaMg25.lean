/- Several texts in one: ChkMem, ChkStore, MbLink. -/
import Derived.Test.YtkckjjchfccdjaaMg16
import Derived.Test.YtkckjjchfccdjaaMg12
import Derived.Test.YtkckjjchfccdjaaMg24
import Derived.Deep.CutBlock
import Derived.Deep.DeepCutAuto
import Derived.Test.YtkckjjchfccdjaaMg15
import Derived.Test.YtkckjjchfccdjaaMg13
/- Chunks: the packer in memory, and the coder that it keeps. -/
namespace Go.Proofs.Ytkckjjchfccdjaa
set_option maxRecDepth 100000
open Go.RowKit

/-- What a packer goes by, and never changes. -/
structure PkS where
  A : Option Addr
  D : List UInt8
  cD : Nat
  lc : Nat
  lp : Nat
  pb : Nat
  nice : Int
  chunk : Int
  block : Int
  check : Int
  chain : Value
  dict : Nat
  F : Nat
abbrev pkRow (k : PkS) (cv : Value) (had : Bool) : List Value :=
  [.slice k.A k.D.length k.cD, .int .i64 (k.lc : Nat), .int .i64 (k.lp : Nat), .int .i64 (k.pb : Nat), .int .i64 k.nice, .int .i64 k.chunk, .int .i64 k.block, .int .i64 k.check, k.chain, .int .u32 (k.dict : Nat), PF k.F, cv, .bool had]
def PkAt (w : World) (p : Nat) (k : PkS) (cv : Value) (had : Bool) : Prop := w.heap[p]? = some (.cells (pkRow k cv had).toArray 58 (0, 0))
section
variable {w w' : World} {p : Nat} {k : PkS} {cv : Value} {had : Bool}
theorem PkAt.lt (h : PkAt w p k cv had) : p < w.heap.size := (Array.getElem?_eq_some_iff.1 h).1
theorem PkAt.keep (h : PkAt w p k cv had) (hk : w'.heap[p]? = w.heap[p]?) : PkAt w' p k cv had := hk.trans h
theorem PkAt.below (h : PkAt w p k cv had) (hb : Below w.heap.size w w') : PkAt w' p k cv had := h.keep (hb.block _ h.lt)
theorem PkAt.frozen (h : PkAt w p k cv had) (i : Nat) : w.frozen? ⟨p, i, none⟩ = false := frozen_of_row _ _ _ _ _ h
theorem PkAt.data (h : PkAt w p k cv had) : w.cell? ⟨p, 0, none⟩ = some (.slice k.A k.D.length k.cD) := by rw [cell_of_row w _ _ _ _ _ h]; rfl
theorem PkAt.lc (h : PkAt w p k cv had) : w.cell? ⟨p, 1, none⟩ = some (.int .i64 (k.lc : Nat)) := by rw [cell_of_row w _ _ _ _ _ h]; rfl
theorem PkAt.lp (h : PkAt w p k cv had) : w.cell? ⟨p, 2, none⟩ = some (.int .i64 (k.lp : Nat)) := by rw [cell_of_row w _ _ _ _ _ h]; rfl
theorem PkAt.pb (h : PkAt w p k cv had) : w.cell? ⟨p, 3, none⟩ = some (.int .i64 (k.pb : Nat)) := by rw [cell_of_row w _ _ _ _ _ h]; rfl
theorem PkAt.find (h : PkAt w p k cv had) : w.cell? ⟨p, 10, none⟩ = some (PF k.F) := by rw [cell_of_row w _ _ _ _ _ h]; rfl
theorem PkAt.cod (h : PkAt w p k cv had) : w.cell? ⟨p, 11, none⟩ = some cv := by rw [cell_of_row w _ _ _ _ _ h]; rfl
theorem PkAt.had_ (h : PkAt w p k cv had) : w.cell? ⟨p, 12, none⟩ = some (.bool had) := by rw [cell_of_row w _ _ _ _ _ h]; rfl
theorem PkAt.opts (h : PkAt w p k cv had) : w.cell? ⟨p, 4, none⟩ = some (.int .i64 k.nice) ∧ w.cell? ⟨p, 5, none⟩ = some (.int .i64 k.chunk) ∧ w.cell? ⟨p, 6, none⟩ = some (.int .i64 k.block) ∧ w.cell? ⟨p, 7, none⟩ = some (.int .i64 k.check) ∧ w.cell? ⟨p, 8, none⟩ = some k.chain ∧ w.cell? ⟨p, 9, none⟩ = some (.int .u32 (k.dict : Nat)) := by
  refine ⟨?_, ?_, ?_, ?_, ?_, ?_⟩ <;> (rw [cell_of_row w _ _ _ _ _ h]; rfl)
theorem PkAt.setCod (h : PkAt w p k cv had) (cv' : Value) : PkAt (w.setCell ⟨p, 11, none⟩ cv') p k cv' had := heap_set h 11 cv'
theorem PkAt.setHad (h : PkAt w p k cv had) (b : Bool) : PkAt (w.setCell ⟨p, 12, none⟩ (.bool b)) p k cv b := heap_set h 12 (.bool b)
end
/-- The coder between two parts: none, or its state, the repeats and the chances. -/
abbrev CodS : Type := Option (Nat × R4 × (Nat → Nat))
def newCod : Nat × R4 × (Nat → Nat) := (0, (1, 1, 1, 1), fun _ => 1024)
structure Cod1 (w : World) (k : PkS) (C L : Nat) (s : Nat × R4 × (Nat → Nat)) : Prop where
  mod : ModAt w C L k.lc k.lp k.pb s.1 s.2.1 s.2.2
  st : s.1 < 12
  good : rGood s.2.1
def CodIs (w : World) (k : PkS) (cv : Value) (Y : List Nat) : CodS → Prop
  | none => cv = .pointer none ∧ Y = []
  | some s => ∃ C L, cv = PF C ∧ Y = [C, L] ∧ Cod1 w k C L s
theorem Cod1.keep {w w' : World} {k : PkS} {C L : Nat} {s : Nat × R4 × (Nat → Nat)} (h : Cod1 w k C L s) (hC : w'.heap[C]? = w.heap[C]?) (hL : w'.heap[L]? = w.heap[L]?) : Cod1 w' k C L s := ⟨h.mod.keep hC hL, h.st, h.good⟩
theorem CodIs.lt {w : World} {k : PkS} {cv : Value} {Y : List Nat} {s : CodS} (h : CodIs w k cv Y s) : ∀ i ∈ Y, i < w.heap.size := by
  cases s with
  | none => obtain ⟨_, rfl⟩ := h; intro i hi; cases hi
  | some s =>
    obtain ⟨C, L, _, rfl, hc⟩ := h
    intro i hi
    simp only [List.mem_cons, List.not_mem_nil, or_false] at hi
    rcases hi with rfl | rfl
    · exact hc.mod.clt
    · exact hc.mod.llt
theorem CodIs.keep {w w' : World} {k : PkS} {cv : Value} {Y : List Nat} {s : CodS} (h : CodIs w k cv Y s) (hk : ∀ i ∈ Y, w'.heap[i]? = w.heap[i]?) : CodIs w' k cv Y s := by
  cases s with
  | none => exact h
  | some s =>
    obtain ⟨C, L, e, rfl, hc⟩ := h
    exact ⟨C, L, e, rfl, hc.keep (hk C (by simp)) (hk L (by simp))⟩
theorem CodIs.below {w w' : World} {k : PkS} {cv : Value} {Y : List Nat} {s : CodS} (h : CodIs w k cv Y s) (hb : Below w.heap.size w w') : CodIs w' k cv Y s := h.keep fun i hi => hb.block i (h.lt i hi)
/-- A packer's block is none of its coder's; nor are bytes of one's own. -/
theorem CodIs.apart {w : World} {k : PkS} {cv : Value} {Y : List Nat} {s : CodS} (h : CodIs w k cv Y s) {j : Nat} {cs : Array Value} {t : TypeId} {x : Nat × Nat} (hj : w.heap[j]? = some (.cells cs t x)) (h1 : t ≠ 121) (h2 : t ≠ 171) : j ∉ Y := by
  cases s with
  | none => obtain ⟨_, rfl⟩ := h; intro hi; cases hi
  | some s =>
    obtain ⟨C, L, _, rfl, hc⟩ := h
    intro hi
    simp only [List.mem_cons, List.not_mem_nil, or_false] at hi
    rcases hi with rfl | rfl
    · obtain ⟨T, hT, _⟩ := hc.mod.box
      rw [hj] at hT; injection hT with hT; injection hT with _ e _; exact h1 e
    · obtain ⟨T, hT, _⟩ := hc.mod.lits
      rw [hj] at hT; injection hT with hT; injection hT with _ e _; exact h2 e
/-- The packer and its coder. -/
structure Pk (w : World) (p : Nat) (k : PkS) (s : CodS) (had : Bool) (Y : List Nat) : Prop where
  ex : ∃ cv, PkAt w p k cv had ∧ CodIs w k cv Y s
theorem Pk.lt {w : World} {p : Nat} {k : PkS} {s : CodS} {had : Bool} {Y : List Nat} (h : Pk w p k s had Y) : p < w.heap.size := by
  obtain ⟨cv, h1, _⟩ := h.ex; exact h1.lt
theorem Pk.ltY {w : World} {p : Nat} {k : PkS} {s : CodS} {had : Bool} {Y : List Nat} (h : Pk w p k s had Y) : ∀ i ∈ Y, i < w.heap.size := by
  obtain ⟨cv, _, h2⟩ := h.ex; exact h2.lt
theorem Pk.below {w w' : World} {p : Nat} {k : PkS} {s : CodS} {had : Bool} {Y : List Nat} (h : Pk w p k s had Y) (hb : Below w.heap.size w w') : Pk w' p k s had Y := by
  obtain ⟨cv, h1, h2⟩ := h.ex
  exact ⟨cv, h1.below hb, h2.below hb⟩
theorem Pk.keep {w w' : World} {p : Nat} {k : PkS} {s : CodS} {had : Bool} {Y : List Nat} (h : Pk w p k s had Y) (hk : ∀ i ∈ p :: Y, w'.heap[i]? = w.heap[i]?) : Pk w' p k s had Y := by
  obtain ⟨cv, h1, h2⟩ := h.ex
  exact ⟨cv, h1.keep (hk p (by simp)), h2.keep fun i hi => hk i (by simp [hi])⟩
/-- Bytes of one's own lie apart from the packer and its coder. -/
theorem Pk.own {base : Nat} {w : World} {p : Nat} {k : PkS} {s : CodS} {had : Bool} {Y : List Nat} (h : Pk w p k s had Y) {v : Value} {l : List UInt8} (ho : Own base w v l) : ∀ g, v.ownBlock = some g → g ∉ p :: Y := by
  obtain ⟨cv, h1, h2⟩ := h.ex
  intro g hg
  rcases ho with ⟨_, ⟨rfl, _⟩ | ⟨g', cap', cur, rfl, _, h4, _⟩⟩
  · cases hg
  · have e : g' = g := by simpa [Value.ownBlock] using hg
    subst e
    intro hi
    rcases List.mem_cons.1 hi with rfl | hi
    · unfold PkAt at h1
      rw [h4] at h1; injection h1 with h1; injection h1 with _ e _; revert e; decide
    · exact h2.apart h4 (by decide) (by decide) hi
/-- What the coder comes to behind symbols that stand from a place on. -/
def putAll (lc lp pb : Nat) (D : List UInt8) : List Sy → Nat → Nat × R4 × EncS → Nat × R4 × EncS
  | [], _, z => z
  | s :: l, p, z => putAll lc lp pb D l (p + max s.l 1) ((Md.sym (encIo 0) lc lp pb z.1 z.2.1 (D.take p) (s.k : Nat) s.b (s.l : Nat) (s.d : Nat) (s.r : Nat) z.2.2).2)
/-- A part: its symbols. -/
def partSyms (k : PkS) (a b : Nat) (r : R4) : List Sy := (symsOf k.D (k.dict : Nat) k.nice b (b - a) a r).1
/-- A part's coded bytes, and the coder then. -/
def codeOf (k : PkS) (a b : Nat) (s : Nat × R4 × (Nat → Nat)) : List UInt8 × (Nat × R4 × (Nat → Nat)) :=
  let z := putAll k.lc k.lp k.pb k.D (partSyms k a b s.2.1) a (s.1, s.2.1, (s.2.2, st0))
  (Rc.be (5 + z.2.2.2.k) z.2.2.2.v, (z.1, z.2.1, z.2.2.1))
end Go.Proofs.Ytkckjjchfccdjaa

/- Chunks: the control byte; a part that is stored. -/
namespace Go.Proofs.Ytkckjjchfccdjaa
set_option maxRecDepth 100000
open Go.RowKit

def ctlB (a : Nat) (had : Bool) (s : CodS) : UInt8 := if a = 0 then 224 else if had = false then 192 else if s.isNone = true then 160 else 128
set_option maxHeartbeats 1000000 in
theorem control_any {w : World} {p : Nat} {k : PkS} {s : CodS} {had : Bool} {Y : List Nat} (h : Pk w p k s had Y) (a : Nat) :
    Calls Try.prog 33 #[PF p, .int .i64 (a : Nat)] w fun e w' => e = .returned (B8 (ctlB a had s)) ∧ w = w' := by
  obtain ⟨cv, hP, hC⟩ := h.ex
  have c11 := hP.cod
  have c12 := hP.had_
  clear h hP
  by_cases ha : a = 0
  · subst ha
    have HV : Hid (B8 (ctlB 0 had s) = .int .u8 224) := Lib.hid rfl
    go_enter Try.func33, Try.ntmps33
    go_wp2_with fail
    go_ret
    exact ⟨congrArg Ending.returned HV.out.symm, rfl⟩
  · have h0 : ((a : Int) == 0) = false := by rw [beq_eq_false_iff_ne]; omega
    cases had with
    | false =>
      have HV : Hid (B8 (ctlB a false s) = .int .u8 192) := Lib.hid (by unfold ctlB; rw [if_neg ha]; rfl)
      clear ha
      go_enter Try.func33, Try.ntmps33
      go_wp2_with fail
      go_ret
      exact ⟨congrArg Ending.returned HV.out.symm, rfl⟩
    | true =>
      cases s with
      | none =>
        obtain ⟨rfl, _⟩ := hC
        have HV : Hid (B8 (ctlB a true none) = .int .u8 160) := Lib.hid (by unfold ctlB; rw [if_neg ha]; rfl)
        clear ha
        go_enter Try.func33, Try.ntmps33
        go_wp2_with fail
        go_ret
        exact ⟨congrArg Ending.returned HV.out.symm, rfl⟩
      | some s =>
        obtain ⟨C, L, rfl, _, _⟩ := hC
        have HV : Hid (B8 (ctlB a true (some s)) = .int .u8 128) := Lib.hid (by unfold ctlB; rw [if_neg ha]; rfl)
        clear ha
        go_enter Try.func33, Try.ntmps33
        go_wp2_with fail
        go_ret
        exact ⟨congrArg Ending.returned HV.out.symm, rfl⟩
/-- A part that is stored. -/
def storeOf (D : List UInt8) (a b : Nat) : List UInt8 := ((if a = 0 then 1 else 2) :: twoB (b - a - 1)) ++ (D.drop a).take (b - a)
def StoreDone (w : World) (p : Nat) (k : PkS) (had : Bool) (l : List UInt8) (e : Ending) (w' : World) : Prop := ∃ v, e = .returned v ∧ Own w.heap.size w' v l ∧ Pk w' p k none had [] ∧ Only [p] w w'
set_option maxRecDepth 100000 in
set_option maxHeartbeats 2000000 in
theorem store_any {w : World} {p : Nat} {k : PkS} {s : CodS} {had : Bool} {Y : List Nat} (h : Pk w p k s had Y) {bD oD : Nat} (hA : k.A = some ⟨bD, oD, none⟩) (hB : Bytes w k.A k.D) (hpD : bD ≠ p) (hc : k.D.length ≤ k.cD) (hl : k.D.length ≤ 100000) (a b : Nat) (hab : a < b) (hb : b ≤ k.D.length) :
    Calls Try.prog 37 #[PF p, .int .i64 (a : Nat), .int .i64 (b : Nat)] w (StoreDone w p k had (storeOf k.D a b)) := by
  obtain ⟨cv, hP, _⟩ := h.ex
  have hlt := hP.lt
  have hP1 := hP.setCod (.pointer none)
  have c11 := hP.cod
  have f11 := hP.frozen 11
  obtain ⟨W1, hW1⟩ : ∃ W1, w.setCell ⟨p, 11, none⟩ (.pointer none) = W1 := ⟨_, rfl⟩
  have hon1 : Only [p] w W1 := by rw [← hW1]; exact (Only.refl _ _).setCell (.inl (by simp)) _
  have hs1 : W1.heap.size = w.heap.size := by rw [← hW1]; simp [World.setCell]
  rw [hW1] at hP1
  have hB1 : Bytes W1 k.A k.D := hB.only hon1 (fun a ha => by rw [hA] at ha; injection ha with ha; subst ha; simpa using hpD)
  obtain ⟨D, hD⟩ : ∃ D, k.D = D := ⟨_, rfl⟩
  have hcd := hP1.data
  rw [hD] at hc hl hb hB1 hcd ⊢
  rw [hA] at hcd hB1
  obtain ⟨cD, hcD⟩ : ∃ c, k.cD = c := ⟨_, rfl⟩
  rw [hcD] at hc hcd
  obtain ⟨x, hx⟩ : ∃ x : UInt8, (if a = 0 then 1 else 2) = x := ⟨_, rfl⟩
  obtain ⟨R, hR⟩ : ∃ R, storeOf D a b = R := ⟨_, rfl⟩
  have hst : ([x] ++ twoB (b - a - 1)) ++ (D.drop a).take (b - a) = R := by rw [← hR]; unfold storeOf; rw [hx]; rfl
  rw [hR]
  obtain ⟨T, hT⟩ : ∃ T, (D.drop a).take (b - a) = T := ⟨_, rfl⟩
  rw [hT] at hst
  have hTl : T.length = b - a := by rw [← hT, List.length_take, List.length_drop]; omega
  have hai : (a : Int) < (b : Int) := by omega
  have hbi : (b : Int) ≤ (D.length : Int) := by omega
  have hli : (D.length : Int) ≤ 100000 := by omega
  have hci : (D.length : Int) ≤ (cD : Int) := by omega
  have hba : (b : Int) - (a : Int) = ((b - a - 1 + 1 : Nat) : Int) := by omega
  obtain ⟨W2, hW2⟩ : ∃ W2, W1.alloc (.cells #[B8 x] 5) = W2 := ⟨_, rfl⟩
  have ho2 : Own W1.heap.size W2 (.slice (some ⟨W1.heap.size, 0, none⟩) 1 1) [x] := by rw [← hW2]; exact Own.lit W1 [x] (Nat.le_refl _) (by simp)
  have hb2 : Below W1.heap.size W1 W2 := by rw [← hW2]; exact (Below.refl _ _).alloc (Nat.le_refl _) _
  have HT := Lib.hid (twoBytes_any (b - a - 1) (by omega) W2)
  obtain ⟨T2, hT2⟩ : ∃ T2, twoB (b - a - 1) = T2 := ⟨_, rfl⟩
  have hT2l : T2.length = 2 := by rw [← hT2]; rfl
  rw [hT2] at HT hst
  have HT2 := Lib.hid hT2l
  clear hT2 hT2l
  rw [← hba] at HT
  have HW1 := Lib.hid hW1
  have HW2 := Lib.hid hW2
  have HO2 := Lib.hid ho2
  have HB2 := Lib.hid hb2
  have HON := Lib.hid hon1
  have HS1 := Lib.hid hs1
  have HST := Lib.hid hst
  have HTT := Lib.hid (And.intro hT hTl)
  have HP1 := Lib.hid hP1
  have HBY := Lib.hid hB1
  have HL := Lib.hid (And.intro hab (And.intro hb (And.intro hl hc)))
  have HCD := Lib.hid hcd
  have HAB := Lib.hid hba
  have HDD := Lib.hid (And.intro hA (And.intro hD hcD))
  have HPL := Lib.hid hlt
  clear h hP hP1 hW1 hW2 ho2 hb2 hon1 hs1 hB1 hB hA hD hcD hc hl hb hab hst hcd hba hlt hpD hR hT hTl
  have hx2 : (a = 0 ∧ x = 1) ∨ (a ≠ 0 ∧ x = 2) := by
    by_cases e : a = 0
    · left; rw [if_pos e] at hx; exact ⟨e, hx.symm⟩
    · right; rw [if_neg e] at hx; exact ⟨e, hx.symm⟩
  clear hx
  have HX : Hid (∀ (e : Ending) (w' : World), ∀ v4 w4 v5, Own W1.heap.size w4 v4 ([x] ++ T2) → Below W1.heap.size W1 w4 → Own W1.heap.size w' v5 (([x] ++ T2) ++ T) → w4.grownBy w' v4.ownBlock → e = .returned v5 → StoreDone w p k had R e w') := Lib.hid (by
    rintro e w' v4 w4 v5 ho4 hb4 ho5 hg5 rfl
    have hb5 : Below W1.heap.size W1 w' := below_grown hb4 hg5 hb4.size (fun g e => (ho4.from_base g e).1)
    rw [HST.out] at ho5
    refine ⟨v5, rfl, by rw [← HS1.out]; exact ho5, ⟨_, HP1.out.below hb5, rfl, rfl⟩, ?_⟩
    exact HON.out.trans (Only.of_below hb5) (fun i hi => .inl hi))
  have hfin := HX.out
  clear HX
  have HX := Lib.hid hfin
  clear hfin
  have HBS := Lib.hid (show Bytes W1 (some ⟨bD, oD + a, none⟩) T from by rw [← HTT.out.1]; exact (HBY.out.drop a).take _)
  rcases hx2 with ⟨ha, rfl⟩ | ⟨ha, rfl⟩
  · have h0 : ((a : Int) == 0) = true := by rw [beq_iff_eq]; omega
    clear ha
    go_enter Try.func37, Try.ntmps37
    go_upto_region 2 with fail
    rw [HW1.out]
    clear c11 f11
    go_wp2_with fail
    rw [show W1.alloc (Obj.cells #[Value.int .u8 1] 5) = W2 from HW2.out]
    refine HT.out.mono ?_
    rintro e w3 ⟨v3, rfl, ho3, hb3⟩
    obtain ⟨A3, c3, rfl, _, _, hB3⟩ := ho3.read
    have HB3 := Lib.hid (HB2.out.trans (hb3.mono HB2.out.size))
    have HO23 := Lib.hid (HO2.out.below hb3)
    have HBB3 := Lib.hid hB3
    clear ho3 hb3 hB3
    go_upto_region 6 with (at_builtin; refine wpList_append_bytes ?_ (.tmp 15) (.tmp 19) ?_ W1.heap.size w3 (.slice (some ⟨W1.heap.size, 0, none⟩) 1 1) [1] ?_ HO23.out A3 T2 c3 ?_ HBB3.out (by rw [HT2.out]; decide) HB3.out.size ?_; rfl; rfl; rfl; rfl; intro v4 w4 ho4 hg4; have HO4 := Lib.hid ho4; have HB4 := Lib.hid (below_grown HB3.out hg4 HB3.out.size (fun g e => (HO23.out.from_base g e).1)); have hcd := ((HP1.out.below HB4.out).data); rw [HDD.out.1, HDD.out.2.1, HDD.out.2.2] at hcd; clear ho4 hg4)
    go_wp2_with (at_builtin; refine wpList_append_bytes ?_ (.tmp 21) (.tmp 28) ?_ W1.heap.size w4 v4 ([1] ++ T2) ?_ HO4.out (some ⟨bD, oD + a, none⟩) T (cD - a) ?_ (HBS.out.below HB4.out) (by rw [HTT.out.2]; have := HL.out; rw [List.length_append, HT2.out]; simp; omega) HB4.out.size ?_; rfl; rfl; rfl; rw [HTT.out.2]; rfl; intro v5 w5 ho5 hg5; have HFIN := Lib.hid (HX.out _ _ v4 w4 v5 HO4.out HB4.out ho5 hg5 rfl); clear ho5 hg5)
    go_ret
    exact HFIN.out
  · have h0 : ((a : Int) == 0) = false := by rw [beq_eq_false_iff_ne]; omega
    clear ha
    go_enter Try.func37, Try.ntmps37
    go_upto_region 2 with fail
    rw [HW1.out]
    clear c11 f11
    go_wp2_with fail
    rw [show W1.alloc (Obj.cells #[Value.int .u8 2] 5) = W2 from HW2.out]
    refine HT.out.mono ?_
    rintro e w3 ⟨v3, rfl, ho3, hb3⟩
    obtain ⟨A3, c3, rfl, _, _, hB3⟩ := ho3.read
    have HB3 := Lib.hid (HB2.out.trans (hb3.mono HB2.out.size))
    have HO23 := Lib.hid (HO2.out.below hb3)
    have HBB3 := Lib.hid hB3
    clear ho3 hb3 hB3
    go_upto_region 6 with (at_builtin; refine wpList_append_bytes ?_ (.tmp 15) (.tmp 19) ?_ W1.heap.size w3 (.slice (some ⟨W1.heap.size, 0, none⟩) 1 1) [2] ?_ HO23.out A3 T2 c3 ?_ HBB3.out (by rw [HT2.out]; decide) HB3.out.size ?_; rfl; rfl; rfl; rfl; intro v4 w4 ho4 hg4; have HO4 := Lib.hid ho4; have HB4 := Lib.hid (below_grown HB3.out hg4 HB3.out.size (fun g e => (HO23.out.from_base g e).1)); have hcd := ((HP1.out.below HB4.out).data); rw [HDD.out.1, HDD.out.2.1, HDD.out.2.2] at hcd; clear ho4 hg4)
    go_wp2_with (at_builtin; refine wpList_append_bytes ?_ (.tmp 21) (.tmp 28) ?_ W1.heap.size w4 v4 ([2] ++ T2) ?_ HO4.out (some ⟨bD, oD + a, none⟩) T (cD - a) ?_ (HBS.out.below HB4.out) (by rw [HTT.out.2]; have := HL.out; rw [List.length_append, HT2.out]; simp; omega) HB4.out.size ?_; rfl; rfl; rfl; rw [HTT.out.2]; rfl; intro v5 w5 ho5 hg5; have HFIN := Lib.hid (HX.out _ _ v4 w4 v5 HO4.out HB4.out ho5 hg5 rfl); clear ho5 hg5)
    go_ret
    exact HFIN.out
end Go.Proofs.Ytkckjjchfccdjaa

/- A symbol is a link: see the text imported. -/
namespace Go.Proofs.Ytkckjjchfccdjaa
end Go.Proofs.Ytkckjjchfccdjaa
