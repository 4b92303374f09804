/- The parser's bestRepeat. -/
import Derived.Test.YtnglkipjiojipaaFdBest
import Derived.Test.YtnglkipjiojipaaPaAfter
namespace Go.Proofs.Ytnglkipjiojipaa
open Go.RowKit

def r4 (a b c d : Int) : Nat → Int
  | 0 => a
  | 1 => b
  | 2 => c
  | _ => d
theorem ix4_0 (a b c d : Int) (w : World) : (Instr.index 29 (.agg #[.int .i64 a, .int .i64 b, .int .i64 c, .int .i64 d]) (.int .i64 0)).run Try.prog w = .ok (.int .i64 a) w := by
  first | rfl | kernel_rfl | (simp [Instr.index, run_underlying Try.underlying29, asIntOf, go_sem])
theorem ix4_1 (a b c d : Int) (w : World) : (Instr.index 29 (.agg #[.int .i64 a, .int .i64 b, .int .i64 c, .int .i64 d]) (.int .i64 1)).run Try.prog w = .ok (.int .i64 b) w := by
  first | rfl | kernel_rfl | (simp [Instr.index, run_underlying Try.underlying29, asIntOf, go_sem])
theorem ix4_2 (a b c d : Int) (w : World) : (Instr.index 29 (.agg #[.int .i64 a, .int .i64 b, .int .i64 c, .int .i64 d]) (.int .i64 2)).run Try.prog w = .ok (.int .i64 c) w := by
  first | rfl | kernel_rfl | (simp [Instr.index, run_underlying Try.underlying29, asIntOf, go_sem])
theorem ix4_3 (a b c d : Int) (w : World) : (Instr.index 29 (.agg #[.int .i64 a, .int .i64 b, .int .i64 c, .int .i64 d]) (.int .i64 3)).run Try.prog w = .ok (.int .i64 d) w := by
  first | rfl | kernel_rfl | (simp [Instr.index, run_underlying Try.underlying29, asIntOf, go_sem])
/-- The first of the greatest of some numbers. -/
def firstTo (g : Nat → Nat) : Nat → Nat × Nat
  | 0 => (0, 0)
  | n + 1 => if (firstTo g n).1 < g n then (g n, n) else firstTo g n
def bestRep (D : List UInt8) (dict place left a b c d : Int) : Nat × Nat := firstTo (fun i => backOf D dict place (r4 a b c d i) left) 4
def RepDone (r : Nat × Nat) (w : World) (e : Ending) (w' : World) : Prop := e = .returned (.tuple #[.int .i64 (r.1 : Nat), .int .i64 (r.2 : Nat)]) ∧ Below w.heap.size w w'
set_option maxRecDepth 100000 in
set_option maxHeartbeats 2000000 in
theorem bestRepeat_any (F : Nat) (A : Option Addr) (cp : Nat) (D : List UInt8) (dict nice : Int) (mp : Nat) (v4 : Value) (place left a b c d : Int) (w : World) (hF : FinderAt w F A cp D dict nice mp v4) :
    Calls Try.prog 17 #[PF F, .int .i64 place, .int .i64 left, R4V a b c d] w (RepDone (bestRep D dict place left a b c d) w) := by
  have HL := Lib.hid (fun (m : Nat) (W : World) (hb : Below w.heap.size w W) (x : Int) => Like_any F A cp D dict nice mp v4 place x left (W.drewN m) ((hF.below hb).drewN m))
  unfold bestRep
  obtain ⟨g, hg⟩ : ∃ g : Nat → Nat, (fun i => backOf D dict place (r4 a b c d i) left) = g := ⟨_, rfl⟩
  rw [hg]
  have HG := Lib.hid (fun i => congrFun hg i)
  clear hg hF
  go_enter Try.func17, Try.ntmps17
  go_wp2_with fail
  obtain ⟨W, hW⟩ : ∃ W, w.alloc (.cells #[.int .i64 a, .int .i64 b, .int .i64 c, .int .i64 d] 29) = W := ⟨_, rfl⟩
  rw [hW]
  have HB : Hid (Below w.heap.size w W) := Lib.hid (by rw [← hW]; exact (Below.refl _ _).alloc (Nat.le_refl _) _)
  clear hW
  go_loopw [10, 11, 16] (fun x y i wr => ∃ (n m : Nat), n ≤ 4 ∧ i = .int .i64 (n : Nat) ∧ x = .int .i64 ((firstTo g n).1 : Nat) ∧ y = .int .i64 ((firstTo g n).2 : Nat) ∧ wr = W.drewN m) (fun x y i _ => 4 - (intOf i).toNat)
  case atStart => exact ⟨0, 0, by omega, rfl, rfl, rfl, rfl⟩
  case round =>
    obtain ⟨n, m, hn, rfl, rfl, rfl, rfl⟩ := hrel
    rcases (by omega : n = 0 ∨ n = 1 ∨ n = 2 ∨ n = 3 ∨ n = 4) with rfl | rfl | rfl | rfl | rfl
    · have hix := ix4_0 a b c d
      have hE : backOf D dict place a left = g 0 := HG.out 0
      obtain ⟨gn, hgn⟩ : ∃ x, g 0 = x := ⟨_, rfl⟩
      rw [hgn] at hE
      have HE := Lib.hid hE
      have HS : Hid (firstTo g 1 = if (firstTo g 0).1 < gn then (gn, 0) else firstTo g 0) := Lib.hid (by rw [← hgn]; rfl)
      obtain ⟨u, hu⟩ : ∃ u, (firstTo g 0).1 = u := ⟨_, rfl⟩
      obtain ⟨v, hv⟩ : ∃ v, (firstTo g 0).2 = v := ⟨_, rfl⟩
      have HU : Hid (firstTo g 0 = (u, v)) := Lib.hid (by rw [← hu, ← hv])
      rw [hu, hv]
      clear hE hgn hu hv
      by_cases hlt : u < gn
      · have HS2 : Hid (firstTo g 1 = (gn, 0)) := Lib.hid (by rw [HS.out, HU.out, if_pos hlt])
        have hlt2 : (u : Int) < (gn : Int) := by omega
        clear hlt
        go_wp2_with fail
        refine (HL.out m W HB.out a).mono ?_
        rintro e w2 ⟨rfl, m2, rfl⟩
        rw [HE.out]
        go_wp2_with fail
        exact ⟨⟨1, _, by omega, rfl, by rw [HS2.out], by rw [HS2.out]; rfl, rfl⟩, by simp [intOf]⟩
      · have HS2 : Hid (firstTo g 1 = (u, v)) := Lib.hid (by rw [HS.out, HU.out, if_neg hlt])
        have hlt2 : ¬ (u : Int) < (gn : Int) := by omega
        clear hlt
        go_wp2_with fail
        refine (HL.out m W HB.out a).mono ?_
        rintro e w2 ⟨rfl, m2, rfl⟩
        rw [HE.out]
        go_wp2_with fail
        exact ⟨⟨1, _, by omega, rfl, by rw [HS2.out], by rw [HS2.out], rfl⟩, by simp [intOf]⟩
    · have hix := ix4_1 a b c d
      have hE : backOf D dict place b left = g 1 := HG.out 1
      obtain ⟨gn, hgn⟩ : ∃ x, g 1 = x := ⟨_, rfl⟩
      rw [hgn] at hE
      have HE := Lib.hid hE
      have HS : Hid (firstTo g 2 = if (firstTo g 1).1 < gn then (gn, 1) else firstTo g 1) := Lib.hid (by rw [← hgn]; rfl)
      obtain ⟨u, hu⟩ : ∃ u, (firstTo g 1).1 = u := ⟨_, rfl⟩
      obtain ⟨v, hv⟩ : ∃ v, (firstTo g 1).2 = v := ⟨_, rfl⟩
      have HU : Hid (firstTo g 1 = (u, v)) := Lib.hid (by rw [← hu, ← hv])
      rw [hu, hv]
      clear hE hgn hu hv
      by_cases hlt : u < gn
      · have HS2 : Hid (firstTo g 2 = (gn, 1)) := Lib.hid (by rw [HS.out, HU.out, if_pos hlt])
        have hlt2 : (u : Int) < (gn : Int) := by omega
        clear hlt
        go_wp2_with fail
        refine (HL.out m W HB.out b).mono ?_
        rintro e w2 ⟨rfl, m2, rfl⟩
        rw [HE.out]
        go_wp2_with fail
        exact ⟨⟨2, _, by omega, rfl, by rw [HS2.out], by rw [HS2.out]; rfl, rfl⟩, by simp [intOf]⟩
      · have HS2 : Hid (firstTo g 2 = (u, v)) := Lib.hid (by rw [HS.out, HU.out, if_neg hlt])
        have hlt2 : ¬ (u : Int) < (gn : Int) := by omega
        clear hlt
        go_wp2_with fail
        refine (HL.out m W HB.out b).mono ?_
        rintro e w2 ⟨rfl, m2, rfl⟩
        rw [HE.out]
        go_wp2_with fail
        exact ⟨⟨2, _, by omega, rfl, by rw [HS2.out], by rw [HS2.out], rfl⟩, by simp [intOf]⟩
    · have hix := ix4_2 a b c d
      have hE : backOf D dict place c left = g 2 := HG.out 2
      obtain ⟨gn, hgn⟩ : ∃ x, g 2 = x := ⟨_, rfl⟩
      rw [hgn] at hE
      have HE := Lib.hid hE
      have HS : Hid (firstTo g 3 = if (firstTo g 2).1 < gn then (gn, 2) else firstTo g 2) := Lib.hid (by rw [← hgn]; rfl)
      obtain ⟨u, hu⟩ : ∃ u, (firstTo g 2).1 = u := ⟨_, rfl⟩
      obtain ⟨v, hv⟩ : ∃ v, (firstTo g 2).2 = v := ⟨_, rfl⟩
      have HU : Hid (firstTo g 2 = (u, v)) := Lib.hid (by rw [← hu, ← hv])
      rw [hu, hv]
      clear hE hgn hu hv
      by_cases hlt : u < gn
      · have HS2 : Hid (firstTo g 3 = (gn, 2)) := Lib.hid (by rw [HS.out, HU.out, if_pos hlt])
        have hlt2 : (u : Int) < (gn : Int) := by omega
        clear hlt
        go_wp2_with fail
        refine (HL.out m W HB.out c).mono ?_
        rintro e w2 ⟨rfl, m2, rfl⟩
        rw [HE.out]
        go_wp2_with fail
        exact ⟨⟨3, _, by omega, rfl, by rw [HS2.out], by rw [HS2.out]; rfl, rfl⟩, by simp [intOf]⟩
      · have HS2 : Hid (firstTo g 3 = (u, v)) := Lib.hid (by rw [HS.out, HU.out, if_neg hlt])
        have hlt2 : ¬ (u : Int) < (gn : Int) := by omega
        clear hlt
        go_wp2_with fail
        refine (HL.out m W HB.out c).mono ?_
        rintro e w2 ⟨rfl, m2, rfl⟩
        rw [HE.out]
        go_wp2_with fail
        exact ⟨⟨3, _, by omega, rfl, by rw [HS2.out], by rw [HS2.out], rfl⟩, by simp [intOf]⟩
    · have hix := ix4_3 a b c d
      have hE : backOf D dict place d left = g 3 := HG.out 3
      obtain ⟨gn, hgn⟩ : ∃ x, g 3 = x := ⟨_, rfl⟩
      rw [hgn] at hE
      have HE := Lib.hid hE
      have HS : Hid (firstTo g 4 = if (firstTo g 3).1 < gn then (gn, 3) else firstTo g 3) := Lib.hid (by rw [← hgn]; rfl)
      obtain ⟨u, hu⟩ : ∃ u, (firstTo g 3).1 = u := ⟨_, rfl⟩
      obtain ⟨v, hv⟩ : ∃ v, (firstTo g 3).2 = v := ⟨_, rfl⟩
      have HU : Hid (firstTo g 3 = (u, v)) := Lib.hid (by rw [← hu, ← hv])
      rw [hu, hv]
      clear hE hgn hu hv
      by_cases hlt : u < gn
      · have HS2 : Hid (firstTo g 4 = (gn, 3)) := Lib.hid (by rw [HS.out, HU.out, if_pos hlt])
        have hlt2 : (u : Int) < (gn : Int) := by omega
        clear hlt
        go_wp2_with fail
        refine (HL.out m W HB.out d).mono ?_
        rintro e w2 ⟨rfl, m2, rfl⟩
        rw [HE.out]
        go_wp2_with fail
        exact ⟨⟨4, _, by omega, rfl, by rw [HS2.out], by rw [HS2.out]; rfl, rfl⟩, by simp [intOf]⟩
      · have HS2 : Hid (firstTo g 4 = (u, v)) := Lib.hid (by rw [HS.out, HU.out, if_neg hlt])
        have hlt2 : ¬ (u : Int) < (gn : Int) := by omega
        clear hlt
        go_wp2_with fail
        refine (HL.out m W HB.out d).mono ?_
        rintro e w2 ⟨rfl, m2, rfl⟩
        rw [HE.out]
        go_wp2_with fail
        exact ⟨⟨4, _, by omega, rfl, by rw [HS2.out], by rw [HS2.out], rfl⟩, by simp [intOf]⟩
    · go_wp2_with fail
      go_ret2
      exact ⟨rfl, below_drewN HB.out _⟩
end Go.Proofs.Ytnglkipjiojipaa
