/- The reference's coder: Becomes. -/
import Derived.Test.YtdkimllfpiphgaaCoNew
import Derived.Deep.RegionHeld3
namespace Go.Proofs.Ytdkimllfpiphgaa
open Go.RowKit

def stateAfter (st k l : Int) : Int :=
  if k = 0 then (if st < 4 then 0 else if st < 10 then st - 3 else st - 6)
  else if k = 1 then (if 7 ≤ st then 10 else 7)
  else if 7 ≤ st then 11 else if l = 1 then 9 else 8
def repsAfter (r : R4) (k d q : Int) : R4 :=
  if k = 0 then r
  else if k = 1 then (d, r.1, r.2.1, r.2.2.1)
  else if q = 0 then r
  else if q = 1 then (r.2.1, r.1, r.2.2.1, r.2.2.2)
  else if q = 2 then (r.2.2.1, r.1, r.2.1, r.2.2.2)
  else (r.2.2.2, r.1, r.2.1, r.2.2.1)
section
variable {w w' : World} {C base : Nat} {lc lp pb st : Int} {r : R4} {P P' : List Nat} {vR vP vP' : Value}
theorem CodAt.setState (h : CodAt w C base lc lp pb st r P vR vP) (st' : Int) : CodAt (w.setCell ⟨C, 3, none⟩ (.int .i64 st')) C base lc lp pb st' r P vR vP :=
  ⟨heap_set h.box 3 _, h.reps.setOther h.apartR _, h.ps.setOther h.apartP _⟩
theorem CodAt.setReps (h : CodAt w C base lc lp pb st r P vR vP) {vR' : Value} {r' : R4} (ho : OwnV 3 base w vR' (rc4 r')) : CodAt (w.setCell ⟨C, 4, none⟩ vR') C base lc lp pb st r' P vR' vP :=
  ⟨heap_set h.box 4 _, ho.setOther (ho.apart h.box (by decide)) _, h.ps.setOther h.apartP _⟩
end
theorem only_of_below {w w' : World} {C : Nat} (h : Below w.heap.size w w') : w.grownBy w' (some C) := ⟨h.os, h.tape, h.output, h.size, fun k hk _ => h.block k hk⟩
theorem only_trans {w a b : World} {C : Nat} (h : w.grownBy a (some C)) (k : a.grownBy b (some C)) : w.grownBy b (some C) :=
  ⟨k.os.trans h.os, k.tape.trans h.tape, k.output.trans h.output, Nat.le_trans h.size k.size, fun i hi hne => (k.block i (Nat.lt_of_lt_of_le hi h.size) hne).trans (h.block i hi hne)⟩
theorem only_set {w a : World} {C : Nat} (h : w.grownBy a (some C)) (i : Nat) (v : Value) : w.grownBy (a.setCell ⟨C, i, none⟩ v) (some C) :=
  ⟨h.os, h.tape, h.output, by have := h.size; simpa [World.setCell] using this, fun k hk hne => (heap_setCell_other _ _ _ _ (fun e => hne (by rw [e]))).trans (h.block k hk hne)⟩
def BecDone (C base : Nat) (lc lp pb st : Int) (r : R4) (P : List Nat) (vP : Value) (w : World) (e : Ending) (w' : World) : Prop := ∃ vR', e = .returned (.tuple #[]) ∧ CodAt w' C base lc lp pb st r P vR' vP ∧ w.grownBy w' (some C)
/-- The repeats lie where they lay, or in a block of their own that is new. -/
def BecDone2 (C base : Nat) (lc lp pb st : Int) (r : R4) (P : List Nat) (vR vP : Value) (w : World) (e : Ending) (w' : World) : Prop := ∃ vR', e = .returned (.tuple #[]) ∧ CodAt w' C base lc lp pb st r P vR' vP ∧ w.grownBy w' (some C) ∧ (vR' = vR ∨ ∀ g, vR'.ownBlock = some g → w.heap.size ≤ g)
theorem BecDone2.done {C base : Nat} {lc lp pb st : Int} {r : R4} {P : List Nat} {vR vP : Value} {w : World} {e : Ending} {w' : World} (h : BecDone2 C base lc lp pb st r P vR vP w e w') : BecDone C base lc lp pb st r P vP w e w' := by
  obtain ⟨v, h1, h2, h3, _⟩ := h
  exact ⟨v, h1, h2, h3⟩
set_option maxRecDepth 100000 in
set_option maxHeartbeats 1000000 in
theorem becomes_lit2 (C base : Nat) (lc lp pb st : Int) (r : R4) (P : List Nat) (vR vP : Value) (b : UInt8) (l d q : Int) (w : World) (hC : CodAt w C base lc lp pb st r P vR vP) (h0 : 0 ≤ st) (h1 : st ≤ 11) :
    Calls Try.prog 22 #[PF C, SyV 0 b l d q] w (BecDone2 C base lc lp pb (stateAfter st 0 l) r P vR vP w) := by
  obtain ⟨S, hS⟩ : ∃ S, stateAfter st 0 l = S := ⟨_, rfl⟩
  rw [hS]
  have HS := Lib.hid hS
  have HC := Lib.hid hC
  clear hS hC
  go_enter Try.func22, Try.ntmps22
  go_upto_region 1 with fail
  obtain ⟨W1, hW1⟩ : ∃ W1, w.alloc (.cells #[.int .i64 0, .int .u8 (b.toNat : Nat), .int .i64 l, .int .i64 d, .int .i64 q] 58) = W1 := ⟨_, rfl⟩
  rw [hW1]
  obtain ⟨y0, y1, y2, y3, y4, hbb⟩ := sy_box hW1
  have hC1 := HC.out.below (hbb.mono (Nat.le_refl _))
  obtain ⟨c3, c4, c5, fz, _⟩ := hC1.cells
  have fz3 := fz 3
  have HC1 := Lib.hid hC1
  have HBB : Hid (w.grownBy W1 (some C)) := Lib.hid (only_of_below hbb)
  clear hW1 hC1 fz hbb
  by_cases s4 : st < 4
  · have HS2 : Hid (S = 0) := Lib.hid (by rw [← HS.out]; unfold stateAfter; rw [if_pos rfl, if_pos s4])
    go_wp2_with fail
    refine bodyPost_ret (v := .tuple #[]) (by simp [results, Try.results22]) rfl ⟨vR, rfl, ?_, ?_, .inl rfl⟩
    · rw [HS2.out]; exact HC1.out.setState _
    · exact only_set HBB.out 3 _
  · by_cases s10 : st < 10
    · have HS2 : Hid (S = st - 3) := Lib.hid (by rw [← HS.out]; unfold stateAfter; rw [if_pos rfl, if_neg s4, if_pos s10])
      go_wp2_with fail
      refine bodyPost_ret (v := .tuple #[]) (by simp [results, Try.results22]) rfl ⟨vR, rfl, ?_, ?_, .inl rfl⟩
      · rw [HS2.out]; exact HC1.out.setState _
      · exact only_set HBB.out 3 _
    · have HS2 : Hid (S = st - 6) := Lib.hid (by rw [← HS.out]; unfold stateAfter; rw [if_pos rfl, if_neg s4, if_neg s10])
      go_wp2_with fail
      refine bodyPost_ret (v := .tuple #[]) (by simp [results, Try.results22]) rfl ⟨vR, rfl, ?_, ?_, .inl rfl⟩
      · rw [HS2.out]; exact HC1.out.setState _
      · exact only_set HBB.out 3 _
theorem becomes_lit (C base : Nat) (lc lp pb st : Int) (r : R4) (P : List Nat) (vR vP : Value) (b : UInt8) (l d q : Int) (w : World) (hC : CodAt w C base lc lp pb st r P vR vP) (h0 : 0 ≤ st) (h1 : st ≤ 11) :
    Calls Try.prog 22 #[PF C, SyV 0 b l d q] w (BecDone C base lc lp pb (stateAfter st 0 l) r P vP w) :=
  (becomes_lit2 C base lc lp pb st r P vR vP b l d q w hC h0 h1).mono fun _ _ h => h.done
set_option maxRecDepth 100000 in
set_option maxHeartbeats 1000000 in
theorem becomes_match2 (C base : Nat) (lc lp pb st : Int) (r : R4) (P : List Nat) (vR vP : Value) (b : UInt8) (l d q : Int) (w : World) (hC : CodAt w C base lc lp pb st r P vR vP) (hbase : base ≤ w.heap.size) :
    Calls Try.prog 22 #[PF C, SyV 1 b l d q] w (BecDone2 C base lc lp pb (stateAfter st 1 l) (d, r.1, r.2.1, r.2.2.1) P vR vP w) := by
  obtain ⟨S, hS⟩ : ∃ S, stateAfter st 1 l = S := ⟨_, rfl⟩
  rw [hS]
  have HS := Lib.hid hS
  have HC := Lib.hid hC
  have HBA := Lib.hid hbase
  clear hS hC hbase
  go_enter Try.func22, Try.ntmps22
  go_upto_region 1 with fail
  obtain ⟨W1, hW1⟩ : ∃ W1, w.alloc (.cells #[.int .i64 1, .int .u8 (b.toNat : Nat), .int .i64 l, .int .i64 d, .int .i64 q] 58) = W1 := ⟨_, rfl⟩
  rw [hW1]
  obtain ⟨y0, y1, y2, y3, y4, hbb⟩ := sy_box hW1
  have hC1 := HC.out.below (hbb.mono (Nat.le_refl _))
  obtain ⟨c3, c4, c5, fz, g, cap, rfl, hcap, hcm, x0, x1, x2, x3, hgb, hgl⟩ := hC1.cells
  have hcpi : (4 : Int) ≤ (cap : Int) := by omega
  have fz3 := fz 3
  have fz4 := fz 4
  have HC1 := Lib.hid hC1
  have HBB : Hid (w.grownBy W1 (some C)) := Lib.hid (only_of_below hbb)
  have HS1 : Hid (w.heap.size ≤ W1.heap.size) := Lib.hid hbb.size
  clear hW1 hC1 fz hbb
  obtain ⟨W2, hW2⟩ : ∃ W2, W1.alloc (.cells #[.int .i64 d, .int .i64 r.1, .int .i64 r.2.1, .int .i64 r.2.2.1] 3) = W2 := ⟨_, rfl⟩
  have hb2 : Below W1.heap.size W1 W2 := by rw [← hW2]; exact (Below.refl _ _).alloc (Nat.le_refl _) _
  have hown : OwnV 3 base W2 (.slice (some ⟨W1.heap.size, 0, none⟩) 4 4) (rc4 (d, r.1, r.2.1, r.2.2.1)) := by
    rw [← hW2]; exact OwnV.lit 3 W1 (rc4 (d, r.1, r.2.1, r.2.2.1)) (Nat.le_trans HBA.out (by have := HS1.out; omega)) (by show 4 ≤ _; decide)
  have hC2 := HC1.out.below hb2
  obtain ⟨_, k4, _, kz, _⟩ := hC2.cells
  have kz4 := kz 4
  rw [← hW2] at k4 kz4
  have HC2 := Lib.hid hC2
  have HOWN := Lib.hid hown
  have HB2 : Hid (w.grownBy W2 (some C)) := Lib.hid (only_trans HBB.out (only_of_below hb2))
  have HW2 := Lib.hid hW2
  clear kz hC2 hown hb2 hW2
  go_wp2_with fail
  go_region
  rw [HW2.out]
  obtain ⟨W3, hW3⟩ : ∃ W3, (W2.setCell ⟨C, 4, none⟩ (.slice (some ⟨W1.heap.size, 0, none⟩) 4 4)).drew = W3 := ⟨_, rfl⟩
  rw [hW3]
  have hC3 : CodAt W3 C base lc lp pb st (d, r.1, r.2.1, r.2.2.1) P (.slice (some ⟨W1.heap.size, 0, none⟩) 4 4) vP := by
    have h := HC2.out.setReps HOWN.out
    rw [← hW3]
    exact ⟨h.box, h.reps, h.ps⟩
  have hB3 : w.grownBy W3 (some C) := by
    have h := only_set HB2.out 4 (.slice (some ⟨W1.heap.size, 0, none⟩) 4 4)
    rw [← hW3]
    exact ⟨h.os, h.tape, h.output, h.size, h.block⟩
  obtain ⟨j3, _, _, jz, _⟩ := hC3.cells
  have jz3 := jz 3
  have HC3 := Lib.hid hC3
  have HB3 := Lib.hid hB3
  clear jz hC3 hB3 hW3
  by_cases s7 : 7 ≤ st
  · have HS2 : Hid (S = 10) := Lib.hid (by rw [← HS.out]; unfold stateAfter; rw [if_neg (by decide), if_pos rfl, if_pos s7])
    go_wp2_with fail
    refine bodyPost_ret (v := .tuple #[]) (by simp [results, Try.results22]) rfl ⟨.slice (some ⟨W1.heap.size, 0, none⟩) 4 4, rfl, ?_, ?_, .inr (fun g e => by injection e with e; subst e; exact HS1.out)⟩
    · rw [HS2.out]; exact (HC3.out.setState 7).setState 10
    · exact only_set (only_set HB3.out 3 _) 3 _
  · have HS2 : Hid (S = 7) := Lib.hid (by rw [← HS.out]; unfold stateAfter; rw [if_neg (by decide), if_pos rfl, if_neg s7])
    go_wp2_with fail
    refine bodyPost_ret (v := .tuple #[]) (by simp [results, Try.results22]) rfl ⟨.slice (some ⟨W1.heap.size, 0, none⟩) 4 4, rfl, ?_, ?_, .inr (fun g e => by injection e with e; subst e; exact HS1.out)⟩
    · rw [HS2.out]; exact HC3.out.setState 7
    · exact only_set HB3.out 3 _
theorem becomes_match (C base : Nat) (lc lp pb st : Int) (r : R4) (P : List Nat) (vR vP : Value) (b : UInt8) (l d q : Int) (w : World) (hC : CodAt w C base lc lp pb st r P vR vP) (hbase : base ≤ w.heap.size) :
    Calls Try.prog 22 #[PF C, SyV 1 b l d q] w (BecDone C base lc lp pb (stateAfter st 1 l) (d, r.1, r.2.1, r.2.2.1) P vP w) :=
  (becomes_match2 C base lc lp pb st r P vR vP b l d q w hC hbase).mono fun _ _ h => h.done
end Go.Proofs.Ytdkimllfpiphgaa
