/- Several texts in one: CoBec, CoBec2, CoGrow. -/
import Derived.Test.YtkckjjchfccdjaaMg11
import Derived.Deep.RegionHeld3
/- The reference's coder: Becomes. -/
namespace Go.Proofs.Ytkckjjchfccdjaa
set_option maxRecDepth 100000
open Go.RowKit

def stateAfter (st k l : Int) : Int :=
  if k = 0 then (if st < 4 then 0 else if st < 10 then st - 3 else st - 6)
  else if k = 1 then (if 7 ≤ st then 10 else 7)
  else if 7 ≤ st then 11 else if l = 1 then 9 else 8
def repsAfter (r : R4) (k d q : Int) : R4 :=
  if k = 0 then r
  else if k = 1 then (d, r.1, r.2.1, r.2.2.1)
  else if q = 0 then r
  else if q = 1 then (r.2.1, r.1, r.2.2.1, r.2.2.2)
  else if q = 2 then (r.2.2.1, r.1, r.2.1, r.2.2.2)
  else (r.2.2.2, r.1, r.2.1, r.2.2.1)
section
variable {w w' : World} {C base : Nat} {lc lp pb st : Int} {r : R4} {P P' : List Nat} {vR vP vP' : Value}
theorem CodAt.setState (h : CodAt w C base lc lp pb st r P vR vP) (st' : Int) : CodAt (w.setCell ⟨C, 3, none⟩ (.int .i64 st')) C base lc lp pb st' r P vR vP :=
  ⟨heap_set h.box 3 _, h.reps.setOther h.apartR _, h.ps.setOther h.apartP _⟩
theorem CodAt.setReps (h : CodAt w C base lc lp pb st r P vR vP) {vR' : Value} {r' : R4} (ho : OwnV 3 base w vR' (rc4 r')) : CodAt (w.setCell ⟨C, 4, none⟩ vR') C base lc lp pb st r' P vR' vP :=
  ⟨heap_set h.box 4 _, ho.setOther (ho.apart h.box (by decide)) _, h.ps.setOther h.apartP _⟩
end
theorem only_of_below {w w' : World} {C : Nat} (h : Below w.heap.size w w') : w.grownBy w' (some C) := ⟨h.os, h.tape, h.output, h.size, fun k hk _ => h.block k hk⟩
theorem only_trans {w a b : World} {C : Nat} (h : w.grownBy a (some C)) (k : a.grownBy b (some C)) : w.grownBy b (some C) :=
  ⟨k.os.trans h.os, k.tape.trans h.tape, k.output.trans h.output, Nat.le_trans h.size k.size, fun i hi hne => (k.block i (Nat.lt_of_lt_of_le hi h.size) hne).trans (h.block i hi hne)⟩
theorem only_set {w a : World} {C : Nat} (h : w.grownBy a (some C)) (i : Nat) (v : Value) : w.grownBy (a.setCell ⟨C, i, none⟩ v) (some C) :=
  ⟨h.os, h.tape, h.output, by have := h.size; simpa [World.setCell] using this, fun k hk hne => (heap_setCell_other _ _ _ _ (fun e => hne (by rw [e]))).trans (h.block k hk hne)⟩
def BecDone (C base : Nat) (lc lp pb st : Int) (r : R4) (P : List Nat) (vP : Value) (w : World) (e : Ending) (w' : World) : Prop := ∃ vR', e = .returned (.tuple #[]) ∧ CodAt w' C base lc lp pb st r P vR' vP ∧ w.grownBy w' (some C)
/-- The repeats lie where they lay, or in a block of their own that is new. -/
def BecDone2 (C base : Nat) (lc lp pb st : Int) (r : R4) (P : List Nat) (vR vP : Value) (w : World) (e : Ending) (w' : World) : Prop := ∃ vR', e = .returned (.tuple #[]) ∧ CodAt w' C base lc lp pb st r P vR' vP ∧ w.grownBy w' (some C) ∧ (vR' = vR ∨ ∀ g, vR'.ownBlock = some g → w.heap.size ≤ g)
theorem BecDone2.done {C base : Nat} {lc lp pb st : Int} {r : R4} {P : List Nat} {vR vP : Value} {w : World} {e : Ending} {w' : World} (h : BecDone2 C base lc lp pb st r P vR vP w e w') : BecDone C base lc lp pb st r P vP w e w' := by
  obtain ⟨v, h1, h2, h3, _⟩ := h
  exact ⟨v, h1, h2, h3⟩
set_option maxRecDepth 100000 in
set_option maxHeartbeats 1000000 in
theorem becomes_lit2 (C base : Nat) (lc lp pb st : Int) (r : R4) (P : List Nat) (vR vP : Value) (b : UInt8) (l d q : Int) (w : World) (hC : CodAt w C base lc lp pb st r P vR vP) (h0 : 0 ≤ st) (h1 : st ≤ 11) :
    Calls Try.prog 44 #[PF C, SyV 0 b l d q] w (BecDone2 C base lc lp pb (stateAfter st 0 l) r P vR vP w) := by
  obtain ⟨S, hS⟩ : ∃ S, stateAfter st 0 l = S := ⟨_, rfl⟩
  rw [hS]
  have HS := Lib.hid hS
  have HC := Lib.hid hC
  clear hS hC
  go_enter Try.func44, Try.ntmps44
  go_upto_region 1 with fail
  obtain ⟨W1, hW1⟩ : ∃ W1, w.alloc (.cells #[.int .i64 0, .int .u8 (b.toNat : Nat), .int .i64 l, .int .i64 d, .int .i64 q] 99) = W1 := ⟨_, rfl⟩
  rw [hW1]
  obtain ⟨y0, y1, y2, y3, y4, hbb⟩ := sy_box hW1
  have hC1 := HC.out.below (hbb.mono (Nat.le_refl _))
  obtain ⟨c3, c4, c5, fz, _⟩ := hC1.cells
  have fz3 := fz 3
  have HC1 := Lib.hid hC1
  have HBB : Hid (w.grownBy W1 (some C)) := Lib.hid (only_of_below hbb)
  clear hW1 hC1 fz hbb
  by_cases s4 : st < 4
  · have HS2 : Hid (S = 0) := Lib.hid (by rw [← HS.out]; unfold stateAfter; rw [if_pos rfl, if_pos s4])
    go_wp2_with fail
    refine bodyPost_ret (v := .tuple #[]) (by simp [results, Try.results44]) rfl ⟨vR, rfl, ?_, ?_, .inl rfl⟩
    · rw [HS2.out]; exact HC1.out.setState _
    · exact only_set HBB.out 3 _
  · by_cases s10 : st < 10
    · have HS2 : Hid (S = st - 3) := Lib.hid (by rw [← HS.out]; unfold stateAfter; rw [if_pos rfl, if_neg s4, if_pos s10])
      go_wp2_with fail
      refine bodyPost_ret (v := .tuple #[]) (by simp [results, Try.results44]) rfl ⟨vR, rfl, ?_, ?_, .inl rfl⟩
      · rw [HS2.out]; exact HC1.out.setState _
      · exact only_set HBB.out 3 _
    · have HS2 : Hid (S = st - 6) := Lib.hid (by rw [← HS.out]; unfold stateAfter; rw [if_pos rfl, if_neg s4, if_neg s10])
      go_wp2_with fail
      refine bodyPost_ret (v := .tuple #[]) (by simp [results, Try.results44]) rfl ⟨vR, rfl, ?_, ?_, .inl rfl⟩
      · rw [HS2.out]; exact HC1.out.setState _
      · exact only_set HBB.out 3 _
theorem becomes_lit (C base : Nat) (lc lp pb st : Int) (r : R4) (P : List Nat) (vR vP : Value) (b : UInt8) (l d q : Int) (w : World) (hC : CodAt w C base lc lp pb st r P vR vP) (h0 : 0 ≤ st) (h1 : st ≤ 11) :
    Calls Try.prog 44 #[PF C, SyV 0 b l d q] w (BecDone C base lc lp pb (stateAfter st 0 l) r P vP w) :=
  (becomes_lit2 C base lc lp pb st r P vR vP b l d q w hC h0 h1).mono fun _ _ h => h.done
set_option maxRecDepth 100000 in
set_option maxHeartbeats 1000000 in
theorem becomes_match2 (C base : Nat) (lc lp pb st : Int) (r : R4) (P : List Nat) (vR vP : Value) (b : UInt8) (l d q : Int) (w : World) (hC : CodAt w C base lc lp pb st r P vR vP) (hbase : base ≤ w.heap.size) :
    Calls Try.prog 44 #[PF C, SyV 1 b l d q] w (BecDone2 C base lc lp pb (stateAfter st 1 l) (d, r.1, r.2.1, r.2.2.1) P vR vP w) := by
  obtain ⟨S, hS⟩ : ∃ S, stateAfter st 1 l = S := ⟨_, rfl⟩
  rw [hS]
  have HS := Lib.hid hS
  have HC := Lib.hid hC
  have HBA := Lib.hid hbase
  clear hS hC hbase
  go_enter Try.func44, Try.ntmps44
  go_upto_region 1 with fail
  obtain ⟨W1, hW1⟩ : ∃ W1, w.alloc (.cells #[.int .i64 1, .int .u8 (b.toNat : Nat), .int .i64 l, .int .i64 d, .int .i64 q] 99) = W1 := ⟨_, rfl⟩
  rw [hW1]
  obtain ⟨y0, y1, y2, y3, y4, hbb⟩ := sy_box hW1
  have hC1 := HC.out.below (hbb.mono (Nat.le_refl _))
  obtain ⟨c3, c4, c5, fz, g, cap, rfl, hcap, hcm, x0, x1, x2, x3, hgb, hgl⟩ := hC1.cells
  have hcpi : (4 : Int) ≤ (cap : Int) := by omega
  have fz3 := fz 3
  have fz4 := fz 4
  have HC1 := Lib.hid hC1
  have HBB : Hid (w.grownBy W1 (some C)) := Lib.hid (only_of_below hbb)
  have HS1 : Hid (w.heap.size ≤ W1.heap.size) := Lib.hid hbb.size
  clear hW1 hC1 fz hbb
  obtain ⟨W2, hW2⟩ : ∃ W2, W1.alloc (.cells #[.int .i64 d, .int .i64 r.1, .int .i64 r.2.1, .int .i64 r.2.2.1] 3) = W2 := ⟨_, rfl⟩
  have hb2 : Below W1.heap.size W1 W2 := by rw [← hW2]; exact (Below.refl _ _).alloc (Nat.le_refl _) _
  have hown : OwnV 3 base W2 (.slice (some ⟨W1.heap.size, 0, none⟩) 4 4) (rc4 (d, r.1, r.2.1, r.2.2.1)) := by
    rw [← hW2]; exact OwnV.lit 3 W1 (rc4 (d, r.1, r.2.1, r.2.2.1)) (Nat.le_trans HBA.out (by have := HS1.out; omega)) (by show 4 ≤ _; decide)
  have hC2 := HC1.out.below hb2
  obtain ⟨_, k4, _, kz, _⟩ := hC2.cells
  have kz4 := kz 4
  rw [← hW2] at k4 kz4
  have HC2 := Lib.hid hC2
  have HOWN := Lib.hid hown
  have HB2 : Hid (w.grownBy W2 (some C)) := Lib.hid (only_trans HBB.out (only_of_below hb2))
  have HW2 := Lib.hid hW2
  clear kz hC2 hown hb2 hW2
  go_wp2_with fail
  go_region
  rw [HW2.out]
  obtain ⟨W3, hW3⟩ : ∃ W3, (W2.setCell ⟨C, 4, none⟩ (.slice (some ⟨W1.heap.size, 0, none⟩) 4 4)).drew = W3 := ⟨_, rfl⟩
  rw [hW3]
  have hC3 : CodAt W3 C base lc lp pb st (d, r.1, r.2.1, r.2.2.1) P (.slice (some ⟨W1.heap.size, 0, none⟩) 4 4) vP := by
    have h := HC2.out.setReps HOWN.out
    rw [← hW3]
    exact ⟨h.box, h.reps, h.ps⟩
  have hB3 : w.grownBy W3 (some C) := by
    have h := only_set HB2.out 4 (.slice (some ⟨W1.heap.size, 0, none⟩) 4 4)
    rw [← hW3]
    exact ⟨h.os, h.tape, h.output, h.size, h.block⟩
  obtain ⟨j3, _, _, jz, _⟩ := hC3.cells
  have jz3 := jz 3
  have HC3 := Lib.hid hC3
  have HB3 := Lib.hid hB3
  clear jz hC3 hB3 hW3
  by_cases s7 : 7 ≤ st
  · have HS2 : Hid (S = 10) := Lib.hid (by rw [← HS.out]; unfold stateAfter; rw [if_neg (by decide), if_pos rfl, if_pos s7])
    go_wp2_with fail
    refine bodyPost_ret (v := .tuple #[]) (by simp [results, Try.results44]) rfl ⟨.slice (some ⟨W1.heap.size, 0, none⟩) 4 4, rfl, ?_, ?_, .inr (fun g e => by injection e with e; subst e; exact HS1.out)⟩
    · rw [HS2.out]; exact (HC3.out.setState 7).setState 10
    · exact only_set (only_set HB3.out 3 _) 3 _
  · have HS2 : Hid (S = 7) := Lib.hid (by rw [← HS.out]; unfold stateAfter; rw [if_neg (by decide), if_pos rfl, if_neg s7])
    go_wp2_with fail
    refine bodyPost_ret (v := .tuple #[]) (by simp [results, Try.results44]) rfl ⟨.slice (some ⟨W1.heap.size, 0, none⟩) 4 4, rfl, ?_, ?_, .inr (fun g e => by injection e with e; subst e; exact HS1.out)⟩
    · rw [HS2.out]; exact HC3.out.setState 7
    · exact only_set HB3.out 3 _
theorem becomes_match (C base : Nat) (lc lp pb st : Int) (r : R4) (P : List Nat) (vR vP : Value) (b : UInt8) (l d q : Int) (w : World) (hC : CodAt w C base lc lp pb st r P vR vP) (hbase : base ≤ w.heap.size) :
    Calls Try.prog 44 #[PF C, SyV 1 b l d q] w (BecDone C base lc lp pb (stateAfter st 1 l) (d, r.1, r.2.1, r.2.2.1) P vP w) :=
  (becomes_match2 C base lc lp pb st r P vR vP b l d q w hC hbase).mono fun _ _ h => h.done
end Go.Proofs.Ytkckjjchfccdjaa

/- The reference's coder: Becomes behind a repeat. -/
namespace Go.Proofs.Ytkckjjchfccdjaa
set_option maxRecDepth 100000
open Go.RowKit

abbrev R4.at (r : R4) : Nat → Int := r4 r.1 r.2.1 r.2.2.1 r.2.2.2
def lstQ (r : R4) (q i : Nat) : List Value := .int .i64 (r.at q) :: ((List.range i).filter fun j => j != q).map fun j => .int .i64 (r.at j)
theorem lstQ_succ (r : R4) (q i : Nat) : lstQ r q (i + 1) = lstQ r q i ++ (if i = q then [] else [.int .i64 (r.at i)]) := by
  unfold lstQ
  rw [List.range_succ, List.filter_append, List.map_append, List.cons_append]
  congr 2
  by_cases h : i = q
  · simp [h]
  · simp [h]
theorem lstQ_len (r : R4) (q i : Nat) : 0 < (lstQ r q i).length ∧ (lstQ r q i).length ≤ i + 1 := by
  unfold lstQ
  have := List.length_filter_le (fun j => j != q) (List.range i)
  simp at this ⊢
  exact this
theorem lstQ_end (r : R4) (q : Nat) (hq : q ≤ 3) (d : Int) : lstQ r q 4 = rc4 (repsAfter r 2 d (q : Nat)) := by
  rcases (by omega : q = 0 ∨ q = 1 ∨ q = 2 ∨ q = 3) with rfl | rfl | rfl | rfl <;> rfl
theorem CodAt.atR {w : World} {C base : Nat} {lc lp pb st : Int} {r : R4} {P : List Nat} {vR vP : Value} (h : CodAt w C base lc lp pb st r P vR vP) :
    ∃ g cap, vR = .slice (some ⟨g, 0, none⟩) 4 cap ∧ 4 ≤ cap ∧ cap ≤ 9223372036854775807 ∧ (∀ i, i < 4 → w.cell? ⟨g, i, none⟩ = some (.int .i64 (r.at i))) := by
  obtain ⟨_, _, _, _, g, cap, e, h1, h2, x0, x1, x2, x3, _⟩ := h.cells
  refine ⟨g, cap, e, h1, h2, fun i hi => ?_⟩
  match i, hi with
  | 0, _ => exact x0
  | 1, _ => exact x1
  | 2, _ => exact x2
  | 3, _ => exact x3
theorem OwnV.weaken {t : TypeId} {base base' : Nat} {w : World} {v : Value} {l : List Value} (h : OwnV t base w v l) (hb : base' ≤ base) : OwnV t base' w v l := by
  rcases h with ⟨h1, h2 | ⟨g, cap, cur, h2, h3, h4⟩⟩
  · exact ⟨h1, .inl h2⟩
  · exact ⟨h1, .inr ⟨g, cap, cur, h2, Nat.le_trans hb h3, h4⟩⟩
set_option maxRecDepth 100000 in
set_option maxHeartbeats 1000000 in
theorem becomes_rep2 (C base : Nat) (lc lp pb st : Int) (r : R4) (P : List Nat) (vR vP : Value) (b : UInt8) (l d : Int) (q : Nat) (w : World) (hC : CodAt w C base lc lp pb st r P vR vP) (hbase : base ≤ w.heap.size) (hq : q ≤ 3) :
    Calls Try.prog 44 #[PF C, SyV 2 b l d (q : Nat)] w (BecDone2 C base lc lp pb (stateAfter st 2 l) (repsAfter r 2 d (q : Nat)) P vR vP w) := by
  obtain ⟨S, hS⟩ : ∃ S, stateAfter st 2 l = S := ⟨_, rfl⟩
  rw [hS]
  have HE := Lib.hid (lstQ_end r q hq d)
  obtain ⟨RA, hRA⟩ : ∃ R, repsAfter r 2 d (q : Nat) = R := ⟨_, rfl⟩
  rw [hRA] at HE ⊢
  have HS := Lib.hid hS
  have HC := Lib.hid hC
  have HBA := Lib.hid hbase
  have hqi : (q : Int) ≤ 3 := by omega
  have hq4 : (q : Int) < 4 := by omega
  obtain ⟨g, cap, rfl, hcap, hcm, _⟩ := hC.atR
  have hcpi : (4 : Int) ≤ (cap : Int) := by omega
  have HX := Lib.hid (fun (W : World) (v : Value) (h : CodAt W C base lc lp pb st r P (.slice (some ⟨g, 0, none⟩) 4 cap) v) => (show ∀ i, i < 4 → W.cell? ⟨g, i, none⟩ = some (.int .i64 (r.at i)) from by
    obtain ⟨g', cap', e, _, _, hx⟩ := h.atR
    injection e with e _ _
    injection e with e
    injection e with e
    subst e
    exact hx))
  clear hS hC hbase hRA
  go_enter Try.func44, Try.ntmps44
  go_upto_region 1 with fail
  obtain ⟨W1, hW1⟩ : ∃ W1, w.alloc (.cells #[.int .i64 2, .int .u8 (b.toNat : Nat), .int .i64 l, .int .i64 d, .int .i64 (q : Nat)] 99) = W1 := ⟨_, rfl⟩
  rw [hW1]
  obtain ⟨y0, y1, y2, y3, y4, hbb⟩ := sy_box hW1
  have hC1 := HC.out.below (hbb.mono (Nat.le_refl _))
  obtain ⟨c3, c4, c5, fz, _⟩ := hC1.cells
  have xq := HX.out W1 _ hC1 q (by omega)
  have HC1 := Lib.hid hC1
  have HBB : Hid (w.grownBy W1 (some C)) := Lib.hid (only_of_below hbb)
  have HS1 : Hid (w.heap.size < W1.heap.size) := Lib.hid (by rw [← hW1]; simp)
  have hsy : Hid (∃ t, W1.heap[w.heap.size]? = some (.cells [.int .i64 2, .int .u8 (b.toNat : Nat), .int .i64 l, .int .i64 d, .int .i64 (q : Nat)].toArray t (0, 0))) := Lib.hid ⟨_, by rw [← hW1]; exact heap_alloc_last _ _⟩
  clear hW1 hC1 fz hbb
  obtain ⟨rq, hrq⟩ : ∃ x, r.at q = x := ⟨_, rfl⟩
  rw [hrq] at xq
  have HRQ := Lib.hid hrq
  clear hrq
  go_upto_region 3 with fail
  go_region
  obtain ⟨W2, hW2⟩ : ∃ W2, (W1.alloc (.cells #[.int .i64 rq] 3)).drew = W2 := ⟨_, rfl⟩
  rw [hW2]
  have hb2 : Below W1.heap.size W1 W2 := by
    rw [← hW2]
    have h := (Below.refl W1.heap.size W1).alloc (Nat.le_refl _) (.cells #[.int .i64 rq] 3)
    exact ⟨h.os, h.tape, h.output, h.size, h.block⟩
  have hown : OwnV 3 W1.heap.size W2 (.slice (some ⟨W1.heap.size, 0, none⟩) 1 1) (lstQ r q 0) := by
    rw [← hW2]
    have e : lstQ r q 0 = [.int .i64 rq] := by rw [← HRQ.out]; rfl
    rw [e]
    exact (OwnV.lit 3 W1 [.int .i64 rq] (Nat.le_refl _) (by show 1 ≤ _; decide)).drew
  have HB2 := Lib.hid hb2
  have HO2 := Lib.hid hown
  clear hW2 hb2 hown y0 y1 y2 y3 y4 c3 c4 c5 xq
  have HQI : Hid (∀ i : Nat, i ≠ q → ((i : Int) != (q : Int)) = true ∧ ((i : Int) == (q : Int)) = false) := Lib.hid (fun i h => by
    refine ⟨bne_iff_ne.2 (fun e => h (by omega)), beq_eq_false_iff_ne.2 (fun e => h (by omega))⟩)
  have HSYB := Lib.hid (fun (W : World) (hb : Below W1.heap.size W1 W) => (show W.cell? ⟨w.heap.size, 4, none⟩ = some (.int .i64 (q : Nat)) ∧ W.cell? ⟨w.heap.size, 2, none⟩ = some (.int .i64 l) from by
    obtain ⟨t, h⟩ := hsy.out
    have e := (hb.block _ HS1.out).trans h
    exact ⟨by rw [cell_of_row W _ _ _ _ _ e]; rfl, by rw [cell_of_row W _ _ _ _ _ e]; rfl⟩))
  go_wp2_with fail
  go_loopw [5, 6] (fun v i wr => ∃ (n : Nat) (vv : Value), n ≤ 4 ∧ vv = v ∧ i = .int .i64 (n : Nat) ∧ Hid (OwnV 3 W1.heap.size wr vv (lstQ r q n)) ∧ Hid (Below W1.heap.size W1 wr)) (fun _ i _ => 4 - (intOf i).toNat)
  case atStart => exact ⟨0, _, by omega, rfl, rfl, HO2, HB2⟩
  case round =>
    obtain ⟨n, v, hn, rfl, rfl, HO, HBW⟩ := hrel
    obtain ⟨y4, y2⟩ := HSYB.out wr HBW.out
    have hCW := HC1.out.below HBW.out
    obtain ⟨c3, c4, c5, fz, _⟩ := hCW.cells
    by_cases hn4 : n < 4
    · have hni : (n : Int) < 4 := by omega
      have xn := HX.out wr _ hCW n hn4
      by_cases hnq : n = q
      · have e1 : ((n : Int) != (q : Int)) = false := by rw [hnq]; simp
        have e2 : ((n : Int) == (q : Int)) = true := by rw [hnq]; simp
        have HO2' : Hid (OwnV 3 W1.heap.size wr v (lstQ r q (n + 1))) := Lib.hid (by rw [lstQ_succ, if_pos hnq, List.append_nil]; exact HO.out)
        clear hnq
        go_wp2_with fail
        exact ⟨⟨n + 1, _, by omega, rfl, by go_num, HO2', HBW⟩, by simp [intOf]; omega⟩
      · obtain ⟨e1, e2⟩ := HQI.out n hnq
        obtain ⟨rn, hrn⟩ : ∃ x, r.at n = x := ⟨_, rfl⟩
        rw [hrn] at xn
        obtain ⟨W3, hW3⟩ : ∃ W3, wr.alloc (.cells #[.int .i64 rn] 3) = W3 := ⟨_, rfl⟩
        have hown3 : OwnV 3 W1.heap.size W3 v (lstQ r q n) := by rw [← hW3]; exact HO.out.alloc _
        have hlit : ∀ i (h : i < [Value.int .i64 rn].length), W3.cell? ⟨wr.heap.size, i, none⟩ = some [Value.int .i64 rn][i] := by rw [← hW3]; exact lit_cell1 wr _ _
        have hb3 : Below W1.heap.size W1 W3 := by rw [← hW3]; exact HBW.out.alloc HBW.out.size _
        have hlen := (lstQ_len r q n).2
        have HW3 := Lib.hid hW3
        have HOWN := Lib.hid hown3
        have HLIT := Lib.hid hlit
        have HB3 := Lib.hid hb3
        have HLEN : Hid ((lstQ r q n).length ≤ 5) := Lib.hid (by omega)
        have HSUC : Hid (lstQ r q (n + 1) = lstQ r q n ++ [.int .i64 rn]) := Lib.hid (by rw [lstQ_succ, if_neg hnq, hrn])
        clear hW3 hown3 hlit hb3 hlen hrn hnq fz hCW
        go_wp2_with (at_builtin; rw [HW3.out]; refine wpList_append_vals elemI rfl (.tmp 31) (.tmp 39) rfl W1.heap.size W3 v _ rfl HOWN.out wr.heap.size 1 1 [.int .i64 rn] rfl rfl HLIT.out (by intro u hu; simp at hu; subst hu; rfl) (by have := HLEN.out; omega) (by have := HLEN.out; omega) HB3.out.size ?_; intro v' w4 hown4 hg4 hloc; clear hloc; have HO4 : Hid (OwnV 3 W1.heap.size w4 v' (lstQ r q (n + 1))) := Lib.hid (by rw [HSUC.out]; exact hown4); have HB4 : Hid (Below W1.heap.size W1 w4) := Lib.hid (below_grown HB3.out hg4 HB3.out.size (fun g e => (HOWN.out.lt g e).1)); clear hown4 hg4)
        exact ⟨⟨n + 1, _, by omega, rfl, by go_num, HO4, HB4⟩, by simp [intOf]; omega⟩
    · obtain rfl : n = 4 := by omega
      rw [HE.out] at HO
      have fz3 := fz 3
      have fz4 := fz 4
      obtain ⟨g', cap', e', _⟩ := HO.out.some_of_pos (show 0 < 4 by decide)
      rw [show (rc4 RA).length = 4 from rfl] at e'
      subst e'
      have HGN : Hid (w.heap.size ≤ g') := Lib.hid (Nat.le_trans (Nat.le_of_lt HS1.out) (HO.out.lt g' rfl).1)
      have hCne : C < w.heap.size := HC.out.lt
      have ne1 : C ≠ w.heap.size := by omega
      have ne2 : w.heap.size ≠ C := by omega
      have hFIN := Lib.hid (hCW.setReps (HO.out.weaken (Nat.le_trans HBA.out (Nat.le_of_lt HS1.out))))
      have hBF : Hid (w.grownBy (wr.setCell ⟨C, 4, none⟩ (.slice (some ⟨g', 0, none⟩) 4 cap')) (some C)) := Lib.hid (only_set (only_trans HBB.out (only_of_below HBW.out)) 4 _)
      clear fz hCW hCne
      by_cases s7 : 7 ≤ st
      · by_cases l1 : l = 1
        · have HS2 : Hid (S = 11) := Lib.hid (by rw [← HS.out]; unfold stateAfter; rw [if_neg (by decide), if_neg (by decide), if_pos s7])
          have l1b : (l == 1) = true := by rw [l1]; rfl
          have j3 := ((hFIN.out.setState 8).setState 9).cells.1
          have j4 := ((hFIN.out.setState 8).setState 9).cells.2.2.2.1 3
          clear l1
          go_wp2_with fail
          refine bodyPost_ret (v := .tuple #[]) (by simp [results, Try.results44]) rfl ⟨.slice (some ⟨g', 0, none⟩) 4 cap', rfl, ?_, ?_, .inr (fun g e => by injection e with e; subst e; exact HGN.out)⟩
          · rw [HS2.out]; exact (((hFIN.out.setState 8).setState 9).setState 11)
          · exact (only_set (only_set (only_set hBF.out 3 _) 3 _) 3 _)
        · have HS2 : Hid (S = 11) := Lib.hid (by rw [← HS.out]; unfold stateAfter; rw [if_neg (by decide), if_neg (by decide), if_pos s7])
          have l1b : (l == 1) = false := by rw [beq_eq_false_iff_ne]; exact l1
          clear l1
          go_wp2_with fail
          refine bodyPost_ret (v := .tuple #[]) (by simp [results, Try.results44]) rfl ⟨.slice (some ⟨g', 0, none⟩) 4 cap', rfl, ?_, ?_, .inr (fun g e => by injection e with e; subst e; exact HGN.out)⟩
          · rw [HS2.out]; exact ((hFIN.out.setState 8).setState 11)
          · exact (only_set (only_set hBF.out 3 _) 3 _)
      · by_cases l1 : l = 1
        · have HS2 : Hid (S = 9) := Lib.hid (by rw [← HS.out]; unfold stateAfter; rw [if_neg (by decide), if_neg (by decide), if_neg s7, if_pos l1])
          have l1b : (l == 1) = true := by rw [l1]; rfl
          have j3 := ((hFIN.out.setState 8).setState 9).cells.1
          have j4 := ((hFIN.out.setState 8).setState 9).cells.2.2.2.1 3
          clear l1
          go_wp2_with fail
          refine bodyPost_ret (v := .tuple #[]) (by simp [results, Try.results44]) rfl ⟨.slice (some ⟨g', 0, none⟩) 4 cap', rfl, ?_, ?_, .inr (fun g e => by injection e with e; subst e; exact HGN.out)⟩
          · rw [HS2.out]; exact ((hFIN.out.setState 8).setState 9)
          · exact (only_set (only_set hBF.out 3 _) 3 _)
        · have HS2 : Hid (S = 8) := Lib.hid (by rw [← HS.out]; unfold stateAfter; rw [if_neg (by decide), if_neg (by decide), if_neg s7, if_neg l1])
          have l1b : (l == 1) = false := by rw [beq_eq_false_iff_ne]; exact l1
          clear l1
          go_wp2_with fail
          refine bodyPost_ret (v := .tuple #[]) (by simp [results, Try.results44]) rfl ⟨.slice (some ⟨g', 0, none⟩) 4 cap', rfl, ?_, ?_, .inr (fun g e => by injection e with e; subst e; exact HGN.out)⟩
          · rw [HS2.out]; exact (hFIN.out.setState 8)
          · exact (only_set hBF.out 3 _)
theorem becomes_rep (C base : Nat) (lc lp pb st : Int) (r : R4) (P : List Nat) (vR vP : Value) (b : UInt8) (l d : Int) (q : Nat) (w : World) (hC : CodAt w C base lc lp pb st r P vR vP) (hbase : base ≤ w.heap.size) (hq : q ≤ 3) :
    Calls Try.prog 44 #[PF C, SyV 2 b l d (q : Nat)] w (BecDone C base lc lp pb (stateAfter st 2 l) (repsAfter r 2 d (q : Nat)) P vP w) :=
  (becomes_rep2 C base lc lp pb st r P vR vP b l d q w hC hbase hq).mono fun _ _ h => h.done
end Go.Proofs.Ytkckjjchfccdjaa

/- The reference's Grow. -/
namespace Go.Proofs.Ytkckjjchfccdjaa
set_option maxRecDepth 100000
open Go.RowKit

theorem Own.weaken {base base' : Nat} {w : World} {v : Value} {l : List UInt8} (h : Own base w v l) (hb : base' ≤ base) : Own base' w v l := by
  rcases h with ⟨h1, h2 | ⟨g, cap, cur, h2, h3, h4⟩⟩
  · exact ⟨h1, .inl h2⟩
  · exact ⟨h1, .inr ⟨g, cap, cur, h2, Nat.le_trans hb h3, h4⟩⟩
def growN (h : List UInt8) (back : Nat) : Nat → List UInt8
  | 0 => h
  | n + 1 => growN h back n ++ [(growN h back n).getD ((growN h back n).length - back) 0]
theorem growN_length (h : List UInt8) (back : Nat) : ∀ n, (growN h back n).length = h.length + n
  | 0 => rfl
  | n + 1 => by
    unfold growN
    rw [List.length_append, growN_length h back n]; rfl
def growS (h : List UInt8) (k : Int) (b : UInt8) (l : Nat) (back : Nat) : List UInt8 := if k = 0 then h ++ [b] else growN h back l
def GrowDone (L : List UInt8) (w : World) (e : Ending) (w' : World) : Prop := ∃ v, e = .returned v ∧ Own w.heap.size w' v L ∧ Below w.heap.size w w'
theorem empty_own (w : World) : Own w.heap.size (w.alloc (.cells #[] 5)) (.slice (some ⟨w.heap.size, 0, none⟩) 0 0) [] := Own.lit w [] (Nat.le_refl _) (by simp)
theorem lit_bytes (w : World) (x : UInt8) : Bytes (w.alloc (.cells #[.int .u8 (x.toNat : Nat)] 5)) (some ⟨w.heap.size, 0, none⟩) [x] := by
  refine .inr ⟨_, _, rfl, by simp, fun k hk => ?_⟩
  obtain rfl : k = 0 := by simpa using hk
  rw [Nat.zero_add, cell_of_row _ _ _ _ _ _ (heap_alloc_last _ _)]; rfl
end Go.Proofs.Ytkckjjchfccdjaa
