/- Several texts in one: MbStart, MlBase2. -/
import Derived.Test.YtkckjjchfccdjaaMg27
import Derived.Test.YtkckjjchfccdjaaMg15
import Derived.Test.YtkckjjchfccdjaaMg17
/- Where the two loops of the round trip begin. -/
namespace Go.Proofs.Ytkckjjchfccdjaa
set_option maxRecDepth 100000
open Go.RowKit

theorem becomes_ints {C base : Nat} {lc lp pb : Int} {st : Nat} {r : R4} {P : List Nat} {vR vP : Value} {n k : Int} {b : UInt8} {l d q : Int} {w : World} (hC : CodAt w C base lc lp pb (st : Nat) r P vR vP) (hbase : base ≤ w.heap.size) (hst : st < 12) (hf : fitsZ r n k l d q = true) :
    Calls Try.prog 44 #[PF C, SyV k b l d q] w (BecDone2 C base lc lp pb (stateAfter (st : Nat) k l) (repsAfter r k d q) P vR vP w) := by
  rcases fitsZ_cases hf with rfl | ⟨rfl, _⟩ | ⟨rfl, h0, h1, _⟩
  · exact becomes_lit2 C base lc lp pb (st : Nat) r P vR vP b l d q w hC (by omega) (by omega)
  · exact becomes_match2 C base lc lp pb (st : Nat) r P vR vP b l d q w hC hbase
  · obtain ⟨q, rfl⟩ : ∃ n : Nat, q = n := ⟨q.toNat, by omega⟩
    exact becomes_rep2 C base lc lp pb (st : Nat) r P vR vP b l d q w hC hbase (by omega)
theorem sep_of {Wr : Nat → Prop} {lo n : Nat} {p : Nat → List Nat} (cls : Nat → Nat) (hc : ∀ a, ∀ i ∈ p a, cls i = a) (hlt : ∀ a, ∀ i ∈ p a, i < n) (hlo : ∀ a, a = 0 ∨ a = 1 ∨ a = 3 → ∀ i ∈ p a, lo ≤ i) : Sep Wr lo n p :=
  ⟨fun a b _ hab i hi hb => hab ((hc a i hi).symm.trans (hc b i hb)), hlt, hlo⟩
abbrev parts (a0 a1 a2 a3 a4 : List Nat) : Nat → List Nat := fun a => if a = 0 then a0 else if a = 1 then a1 else if a = 2 then a2 else if a = 3 then a3 else if a = 4 then a4 else []
theorem parts_all {a0 a1 a2 a3 a4 : List Nat} {Q : Nat → Nat → Prop} (h0 : ∀ i ∈ a0, Q 0 i) (h1 : ∀ i ∈ a1, Q 1 i) (h2 : ∀ i ∈ a2, Q 2 i) (h3 : ∀ i ∈ a3, Q 3 i) (h4 : ∀ i ∈ a4, Q 4 i) : ∀ a, ∀ i ∈ parts a0 a1 a2 a3 a4 a, Q a i := by
  intro a i hi
  unfold parts at hi
  by_cases e0 : a = 0
  · subst e0; exact h0 i hi
  · rw [if_neg e0] at hi
    by_cases e1 : a = 1
    · subst e1; exact h1 i hi
    · rw [if_neg e1] at hi
      by_cases e2 : a = 2
      · subst e2; exact h2 i hi
      · rw [if_neg e2] at hi
        by_cases e3 : a = 3
        · subst e3; exact h3 i hi
        · rw [if_neg e3] at hi
          by_cases e4 : a = 4
          · subst e4; exact h4 i hi
          · rw [if_neg e4] at hi; simp at hi
theorem lp_start1 {w w1 w2 w3 w4 : World} {C L D M lc lp pb g o cap C2 : Nat} {vR vP : Value} {A : Option Addr} {H0 : List UInt8} {c : Nat} (hM : ModAt w1 C L lc lp pb 0 (1, 1, 1, 1) (fun _ => 1024)) (hb1 : Below w.heap.size w w1) (hC : w.heap.size ≤ C) (hL : w.heap.size ≤ L)
    (hD : ModAt w2 D M lc lp pb 0 (1, 1, 1, 1) (fun _ => 1024)) (hb2 : Below w1.heap.size w1 w2) (hDl : w1.heap.size ≤ D) (hMl : w1.heap.size ≤ M)
    (hE : EncAt w3 g o cap st0) (hb3 : Below w2.heap.size w2 w3) (hg : w2.heap.size ≤ g) (ho : w2.heap.size ≤ o)
    (hCo : CodAt w4 C2 w3.heap.size lc lp pb 0 (1, 1, 1, 1) (List.replicate (2180 + 768 * 2 ^ (lc + lp)) 1024) vR vP) (hb4 : Below w3.heap.size w3 w4) (hC2 : w3.heap.size ≤ C2)
    (hB : Bytes w A H0) (hA : ∀ a, A = some a → a.block < w.heap.size) (hc : H0.length ≤ c) (hm : c ≤ 9223372036854775807) :
    ∃ p, Lp w w4 (encIo g) C L lc lp pb 0 (1, 1, 1, 1) (fun _ => 1024, st0) [g, o] C2 w3.heap.size 0 (1, 1, 1, 1) (.slice A H0.length c) H0 (.slice none 0 0) [] (fun w => ModAt w D M lc lp pb 0 (1, 1, 1, 1) (fun _ => 1024)) (fun a => a ≠ 2) p ∧ p 4 = [D, M] := by
  have s1 := hb1.size
  have s2 := hb2.size
  have s3 := hb3.size
  have s4 := hb4.size
  have k1 := hM.clt
  have k2 := hM.llt
  have k3 := hD.clt
  have k4 := hD.llt
  have k5 := hE.lt
  have k6 := hCo.lt
  have k7 := fun g e => hCo.reps.lt g e
  have k8 := fun g e => hCo.ps.lt g e
  have b02 : Below w.heap.size w w2 := hb1.trans (hb2.mono s1)
  have b03 : Below w.heap.size w w3 := b02.trans (hb3.mono b02.size)
  have b04 : Below w.heap.size w w4 := b03.trans (hb4.mono b03.size)
  have b13 : Below w1.heap.size w1 w3 := hb2.trans (hb3.mono s2)
  have b24 : Below w2.heap.size w2 w4 := hb3.trans (hb4.mono s3)
  have i0 : ∀ i ∈ C :: L :: [g, o], (w.heap.size ≤ i ∧ i < w1.heap.size) ∨ (w2.heap.size ≤ i ∧ i < w3.heap.size) := by
    intro i hi
    simp only [List.mem_cons, List.not_mem_nil, or_false] at hi
    rcases hi with rfl | rfl | rfl | rfl
    · exact .inl ⟨hC, k1⟩
    · exact .inl ⟨hL, k2⟩
    · exact .inr ⟨hg, k5.1⟩
    · exact .inr ⟨ho, k5.2⟩
  have i1 : ∀ i ∈ C2 :: (vR.ownBlock.toList ++ vP.ownBlock.toList), w3.heap.size ≤ i ∧ i < w4.heap.size := by
    intro i hi
    simp only [List.mem_cons, List.mem_append, Option.mem_toList] at hi
    rcases hi with rfl | hi | hi
    · exact ⟨hC2, k6⟩
    · exact k7 i hi
    · exact k8 i hi
  have i2 : ∀ i ∈ (A.map (·.block)).toList, i < w.heap.size := by
    intro i hi
    simp only [Option.mem_toList, Option.map_eq_some_iff] at hi
    obtain ⟨a, e, rfl⟩ := hi
    exact hA a e
  have i4 : ∀ i ∈ [D, M], w1.heap.size ≤ i ∧ i < w2.heap.size := by
    intro i hi
    simp only [List.mem_cons, List.not_mem_nil, or_false] at hi
    rcases hi with rfl | rfl
    · exact ⟨hDl, k3⟩
    · exact ⟨hMl, k4⟩
  refine ⟨parts (C :: L :: [g, o]) (C2 :: (vR.ownBlock.toList ++ vP.ownBlock.toList)) (A.map (·.block)).toList [] [D, M], ⟨?_, rfl, ⟨_, vR, vP, hCo, ?_, ?_, ?_⟩, s4, ⟨A, c, rfl, hc, hm, hB.below b04, fun a e => ?_⟩, ⟨OwnS.nil _ _, fun g e => by cases e⟩, hD.keep (b24.block _ k3) (b24.block _ k4), fun v1 v2 h1 _ h2 => h1.keep (h2 D (by simp [parts])) (h2 M (by simp [parts])), ?_, ⟨by decide, by decide, by decide⟩, b04⟩, rfl⟩
  · exact (ms_start (hM.keep (hb2.block _ k1) (hb2.block _ k2)) hb3 hE hg ho).below hb4
  · show C2 ∈ C2 :: _; simp
  · intro g e; show g ∈ C2 :: _; simp [e]
  · intro g e; show g ∈ C2 :: _; simp [e]
  · show a.block ∈ (A.map (·.block)).toList
    rw [e]; simp
  · refine sep_of (fun i => if i < w.heap.size then 2 else if i < w1.heap.size then 0 else if i < w2.heap.size then 4 else if i < w3.heap.size then 0 else 1) (parts_all ?_ ?_ ?_ (by simp) ?_) (parts_all ?_ ?_ ?_ (by simp) ?_) ?_
    · intro i hi
      rcases i0 i hi with h | h
      · simp only [show ¬ i < w.heap.size by omega, show i < w1.heap.size by omega, if_true, if_false]
      · simp only [show ¬ i < w.heap.size by omega, show ¬ i < w1.heap.size by omega, show ¬ i < w2.heap.size by omega, show i < w3.heap.size by omega, if_true, if_false]
    · intro i hi
      have h := i1 i hi
      simp only [show ¬ i < w.heap.size by omega, show ¬ i < w1.heap.size by omega, show ¬ i < w2.heap.size by omega, show ¬ i < w3.heap.size by omega, if_false]
    · intro i hi
      simp only [show i < w.heap.size from i2 i hi, if_true]
    · intro i hi
      have h := i4 i hi
      simp only [show ¬ i < w.heap.size by omega, show ¬ i < w1.heap.size by omega, show i < w2.heap.size by omega, if_true, if_false]
    · intro i hi; rcases i0 i hi with h | h <;> omega
    · intro i hi; exact (i1 i hi).2
    · intro i hi; have := i2 i hi; omega
    · intro i hi; have := i4 i hi; omega
    · intro a ha i hi
      rcases ha with rfl | rfl | rfl
      · rcases i0 i hi with h | h <;> omega
      · have := i1 i hi; omega
      · simp [parts] at hi
set_option maxHeartbeats 1000000 in
theorem lp_start2 {w wr w1 w2 w3 : World} {io : Io} {C L D M lc lp pb st : Nat} {r : R4} {x : io.S} {X : List Nat} {C2 base st2 : Nat} {r2 : R4} {hv : Value} {H : List UInt8} {pv : Value} {ss : List Sy} {p : Nat → List Nat} {g o cap C3 : Nat} {vR vP : Value} {A : Option Addr} {H0 : List UInt8} {c : Nat} {LB : List UInt8} {s : Rd.St}
    (t : Lp w wr io C L lc lp pb st r x X C2 base st2 r2 hv H pv ss (fun w => ModAt w D M lc lp pb 0 (1, 1, 1, 1) (fun _ => 1024)) (fun a => a ≠ 2) p) (hp4 : p 4 = [D, M]) (hD : w.heap.size ≤ D) (hM : w.heap.size ≤ M) (hb1 : Below wr.heap.size wr w1)
    (hE : DecIs w2 g o cap LB s) (hb2 : Below w1.heap.size w1 w2) (hg : w1.heap.size ≤ g) (ho : w1.heap.size ≤ o)
    (hCo : CodAt w3 C3 w2.heap.size lc lp pb 0 (1, 1, 1, 1) (List.replicate (2180 + 768 * 2 ^ (lc + lp)) 1024) vR vP) (hb3 : Below w2.heap.size w2 w3) (hC3 : w2.heap.size ≤ C3)
    (hB : Bytes w A H0) (hA : ∀ a, A = some a → a.block < w.heap.size) (hc : H0.length ≤ c) (hm : c ≤ 9223372036854775807) :
    ∃ p', Lp w w3 (decIo g o cap LB) D M lc lp pb 0 (1, 1, 1, 1) (fun _ => 1024, s) [g, o] C3 w2.heap.size 0 (1, 1, 1, 1) (.slice A H0.length c) H0 pv ss (fun w => HistIn w hv H (p 2)) (fun a => a = 0 ∨ a = 1 ∨ a = 3) p' := by
  have s0 := t.below.size
  have s1 := hb1.size
  have s2 := hb2.size
  have s3 := hb3.size
  have hmod : ModAt wr D M lc lp pb 0 (1, 1, 1, 1) (fun _ => 1024) := t.rest
  have k1 := hmod.clt
  have k2 := hmod.llt
  obtain ⟨_, _, _, hT⟩ := id hE
  have k5 := hT.glt
  have k5' := hT.lt
  have k6 := hCo.lt
  have k7 := fun g e => hCo.reps.lt g e
  have k8 := fun g e => hCo.ps.lt g e
  have b2 : Below wr.heap.size wr w2 := hb1.trans (hb2.mono s1)
  have b3 : Below wr.heap.size wr w3 := b2.trans (hb3.mono b2.size)
  have b03 : Below w.heap.size w w3 := t.below.trans (b3.mono s0)
  have t3 := t.next b3
  have i0 : ∀ i ∈ D :: M :: [g, o], i ∈ p 4 ∨ (w1.heap.size ≤ i ∧ i < w2.heap.size) := by
    intro i hi
    simp only [List.mem_cons, List.not_mem_nil, or_false] at hi
    rw [hp4]
    rcases hi with rfl | rfl | rfl | rfl
    · exact .inl (by simp)
    · exact .inl (by simp)
    · exact .inr ⟨hg, k5⟩
    · exact .inr ⟨ho, k5'⟩
  have i1 : ∀ i ∈ C3 :: (vR.ownBlock.toList ++ vP.ownBlock.toList), w2.heap.size ≤ i ∧ i < w3.heap.size := by
    intro i hi
    simp only [List.mem_cons, List.mem_append, Option.mem_toList] at hi
    rcases hi with rfl | hi | hi
    · exact ⟨hC3, k6⟩
    · exact k7 i hi
    · exact k8 i hi
  have i2 : ∀ i ∈ (A.map (·.block)).toList, i < w.heap.size := by
    intro i hi
    simp only [Option.mem_toList, Option.map_eq_some_iff] at hi
    obtain ⟨a, e, rfl⟩ := hi
    exact hA a e
  have i3 : ∀ i ∈ pv.ownBlock.toList, i ∈ p 3 := by
    intro i hi
    simp only [Option.mem_toList] at hi
    exact t.puts.2 i hi
  have l4 : ∀ i ∈ p 4, w.heap.size ≤ i := by
    intro i hi
    rw [hp4] at hi
    simp only [List.mem_cons, List.not_mem_nil, or_false] at hi
    rcases hi with rfl | rfl
    · exact hD
    · exact hM
  refine ⟨parts (D :: M :: [g, o]) (C3 :: (vR.ownBlock.toList ++ vP.ownBlock.toList)) (A.map (·.block)).toList pv.ownBlock.toList (p 2), ⟨⟨hmod.keep (b3.block _ k1) (b3.block _ k2), ⟨rfl, ?_⟩, ?_, ?_⟩, rfl, ⟨_, vR, vP, hCo, ?_, ?_, ?_⟩, s3, ⟨A, c, rfl, hc, hm, hB.below b03, fun a e => ?_⟩, ⟨t3.puts.1, fun g e => ?_⟩, t3.hist, fun v1 v2 h1 h2 h3 => h1.keep h2 h3, ?_, ⟨by decide, by decide, by decide⟩, b03⟩⟩
  · exact hE.below hb3
  · simp; omega
  · simp; omega
  · show C3 ∈ C3 :: _; simp
  · intro g e; show g ∈ C3 :: _; simp [e]
  · intro g e; show g ∈ C3 :: _; simp [e]
  · show a.block ∈ (A.map (·.block)).toList
    rw [e]; simp
  · show g ∈ pv.ownBlock.toList
    rw [e]; simp
  · have q2 := t.sep.lt 2
    have q3 := t.sep.lt 3
    have q3' := t.sep.lo 3 (.inr (.inr rfl))
    have q4 := t.sep.lt 4
    have q42 := t.sep.dis 4 2 (by decide) (by decide)
    have q43 := t.sep.dis 4 3 (by decide) (by decide)
    have q32 := t.sep.dis 3 2 (by decide) (by decide)
    have cl := parts_all (Q := fun a i => (a = 0 ∧ (i ∈ p 4 ∨ (w1.heap.size ≤ i ∧ i < w2.heap.size))) ∨ (a = 1 ∧ w2.heap.size ≤ i ∧ i < w3.heap.size) ∨ (a = 2 ∧ i < w.heap.size) ∨ (a = 3 ∧ i ∈ p 3) ∨ (a = 4 ∧ i ∈ p 2)) (fun i hi => .inl ⟨rfl, i0 i hi⟩) (fun i hi => .inr (.inl ⟨rfl, i1 i hi⟩)) (fun i hi => .inr (.inr (.inl ⟨rfl, i2 i hi⟩))) (fun i hi => .inr (.inr (.inr (.inl ⟨rfl, i3 i hi⟩)))) (a4 := p 2) (fun i hi => .inr (.inr (.inr (.inr ⟨rfl, hi⟩))))
    refine ⟨fun a b hw hab i hi hb => ?_, fun a i hi => ?_, fun a ha i hi => ?_⟩
    · have f2 := q2 i
      have f3 := q3 i
      have f3' := q3' i
      have f4 := q4 i
      have f4' := l4 i
      have f42 := q42 i
      have f43 := q43 i
      have f32 := q32 i
      have h := cl a i hi
      have k := cl b i hb
      clear cl hi hb q2 q3 q3' q4 q42 q43 q32 l4 i0 i1 i2 i3
      rcases h with ⟨ra, h | h⟩ | ⟨ra, h⟩ | ⟨ra, h⟩ | ⟨ra, h⟩ | ⟨ra, h⟩ <;> rcases k with ⟨rb, k | k⟩ | ⟨rb, k⟩ | ⟨rb, k⟩ | ⟨rb, k⟩ | ⟨rb, k⟩
      all_goals first
        | exact absurd (ra.trans rb.symm) hab
        | exact f43 h k
        | exact f43 k h
        | exact f42 h k
        | exact f32 h k
        | (clear f2 f3 f3' f4 f4' f42 f43 f32; omega)
        | (have := f4 h; clear f2 f3 f3' f4 f4' f42 f43 f32; omega)
        | (have := f4 k; clear f2 f3 f3' f4 f4' f42 f43 f32; omega)
        | (have := f4' h; clear f2 f3 f3' f4 f4' f42 f43 f32; omega)
        | (have := f3 h; clear f2 f3 f3' f4 f4' f42 f43 f32; omega)
        | (have := f3 k; clear f2 f3 f3' f4 f4' f42 f43 f32; omega)
        | (have := f2 k; clear f2 f3 f3' f4 f4' f42 f43 f32; omega)
        | (have := f3' h; clear f2 f3 f3' f4 f4' f42 f43 f32; omega)
    · have f2 := q2 i
      have f3 := q3 i
      have f4 := q4 i
      rcases cl a i hi with ⟨_, h | h⟩ | ⟨_, h⟩ | ⟨_, h⟩ | ⟨_, h⟩ | ⟨_, h⟩
      · have := f4 h; omega
      · omega
      · omega
      · omega
      · have := f3 h; omega
      · have := f2 h; omega
    · have f3' := q3' i
      have f4' := l4 i
      rcases cl a i hi with ⟨_, h | h⟩ | ⟨_, h⟩ | ⟨_, h⟩ | ⟨_, h⟩ | ⟨_, h⟩
      · exact f4' h
      · omega
      · omega
      · omega
      · exact f3' h
      · omega
end Go.Proofs.Ytkckjjchfccdjaa

/- What laws of symbols share, with their memory. -/
namespace Go.Proofs.Ytkckjjchfccdjaa
set_option maxRecDepth 100000
open Go.RowKit

theorem HistIn.bytes {w : World} {A : Option Addr} {c : Nat} {H : List UInt8} {Y : List Nat} (h : HistIn w (.slice A H.length c) H Y) : Bytes w A H ∧ ∀ a, A = some a → a.block ∈ Y := by
  obtain ⟨A', c', e, _, _, hB, hA⟩ := h
  injection e with e1 _ e3
  subst e1
  exact ⟨hB, hA⟩
theorem becomes_sy2 {C base : Nat} {lc lp pb : Int} {st : Nat} {r : R4} {P : List Nat} {vR vP : Value} {s : Sy} {w : World} (hC : CodAt w C base lc lp pb (st : Nat) r P vR vP) (hbase : base ≤ w.heap.size) (hst : st < 12) (hk : s.k ≤ 2) (hq : s.r ≤ 3) :
    Calls Try.prog 44 #[PF C, s.val] w (BecDone2 C base lc lp pb (stateAfter (st : Nat) (s.k : Nat) (s.l : Nat)) (repsAfter r (s.k : Nat) (s.d : Nat) (s.r : Nat)) P vR vP w) := by
  obtain ⟨k, b, l, d, q⟩ := s
  simp only at hk hq
  rcases (by omega : k = 0 ∨ k = 1 ∨ k = 2) with rfl | rfl | rfl
  · exact becomes_lit2 C base lc lp pb (st : Nat) r P vR vP b _ _ _ w hC (by omega) (by omega)
  · exact becomes_match2 C base lc lp pb (st : Nat) r P vR vP b _ _ _ w hC hbase
  · exact becomes_rep2 C base lc lp pb (st : Nat) r P vR vP b _ _ q w hC hbase hq
end Go.Proofs.Ytkckjjchfccdjaa
