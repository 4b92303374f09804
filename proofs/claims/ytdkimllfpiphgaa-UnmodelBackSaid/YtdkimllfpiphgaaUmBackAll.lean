/- Several texts in one: UmStart, UmBack0, UmBack. -/
import Derived.Test.YtdkimllfpiphgaaMbMemAll
import Derived.Test.YtdkimllfpiphgaaUmReadAll
import Derived.Test.YtdkimllfpiphgaaMlBaseAll
/- Where the law's loop begins. -/
namespace Go.Proofs.Ytdkimllfpiphgaa
open Go.RowKit

theorem lp_start0 {w w1 w3 w4 : World} {C L lc lp pb g o cap C2 : Nat} {vR vP : Value} {A : Option Addr} {H0 : List UInt8} {c : Nat} (hM : ModAt w1 C L lc lp pb 0 (1, 1, 1, 1) (fun _ => 1024)) (hb1 : Below w.heap.size w w1) (hC : w.heap.size ≤ C) (hL : w.heap.size ≤ L)
    (hE : EncAt w3 g o cap st0) (hb3 : Below w1.heap.size w1 w3) (hg : w1.heap.size ≤ g) (ho : w1.heap.size ≤ o)
    (hCo : CodAt w4 C2 w3.heap.size lc lp pb 0 (1, 1, 1, 1) (List.replicate (2180 + 768 * 2 ^ (lc + lp)) 1024) vR vP) (hb4 : Below w3.heap.size w3 w4) (hC2 : w3.heap.size ≤ C2)
    (hB : Bytes w A H0) (hA : ∀ a, A = some a → a.block < w.heap.size) (hc : H0.length ≤ c) (hm : c ≤ 9223372036854775807) :
    ∃ p, Lp w w4 (encIo g) C L lc lp pb 0 (1, 1, 1, 1) (fun _ => 1024, st0) [g, o] C2 w3.heap.size 0 (1, 1, 1, 1) (.slice A H0.length c) H0 (.slice none 0 0) [] (fun _ => True) (fun a => a ≠ 2) p := by
  have s1 := hb1.size
  have s3 := hb3.size
  have s4 := hb4.size
  have k1 := hM.clt
  have k2 := hM.llt
  have k5 := hE.lt
  have k6 := hCo.lt
  have k7 := fun g e => hCo.reps.lt g e
  have k8 := fun g e => hCo.ps.lt g e
  have b03 : Below w.heap.size w w3 := hb1.trans (hb3.mono s1)
  have b04 : Below w.heap.size w w4 := b03.trans (hb4.mono b03.size)
  have i0 : ∀ i ∈ C :: L :: [g, o], w.heap.size ≤ i ∧ i < w3.heap.size := by
    intro i hi
    simp only [List.mem_cons, List.not_mem_nil, or_false] at hi
    rcases hi with rfl | rfl | rfl | rfl <;> omega
  have i1 : ∀ i ∈ C2 :: (vR.ownBlock.toList ++ vP.ownBlock.toList), w3.heap.size ≤ i ∧ i < w4.heap.size := by
    intro i hi
    simp only [List.mem_cons, List.mem_append, Option.mem_toList] at hi
    rcases hi with rfl | hi | hi
    · exact ⟨hC2, k6⟩
    · exact k7 i hi
    · exact k8 i hi
  have i2 : ∀ i ∈ (A.map (·.block)).toList, i < w.heap.size := by
    intro i hi
    simp only [Option.mem_toList, Option.map_eq_some_iff] at hi
    obtain ⟨a, e, rfl⟩ := hi
    exact hA a e
  refine ⟨parts (C :: L :: [g, o]) (C2 :: (vR.ownBlock.toList ++ vP.ownBlock.toList)) (A.map (·.block)).toList [] [], ⟨?_, rfl, ⟨_, vR, vP, hCo, ?_, ?_, ?_⟩, s4, ⟨A, c, rfl, hc, hm, hB.below b04, fun a e => ?_⟩, ⟨OwnS.nil _ _, fun g e => by cases e⟩, trivial, fun _ _ _ _ _ => trivial, ?_, ⟨by decide, by decide, by decide⟩, b04⟩⟩
  · exact (ms_start hM hb3 hE hg ho).below hb4
  · show C2 ∈ C2 :: _; simp
  · intro g e; show g ∈ C2 :: _; simp [e]
  · intro g e; show g ∈ C2 :: _; simp [e]
  · show a.block ∈ (A.map (·.block)).toList
    rw [e]; simp
  · refine sep_of (fun i => if i < w.heap.size then 2 else if i < w3.heap.size then 0 else 1) (parts_all ?_ ?_ ?_ (by simp) (by simp)) (parts_all ?_ ?_ ?_ (by simp) (by simp)) ?_
    · intro i hi
      have h := i0 i hi
      simp only [show ¬ i < w.heap.size by omega, show i < w3.heap.size by omega, if_true, if_false]
    · intro i hi
      have h := i1 i hi
      simp only [show ¬ i < w.heap.size by omega, show ¬ i < w3.heap.size by omega, if_false]
    · intro i hi
      simp only [show i < w.heap.size from i2 i hi, if_true]
    · intro i hi; have := i0 i hi; omega
    · intro i hi; exact (i1 i hi).2
    · intro i hi; have := i2 i hi; omega
    · intro a ha i hi
      rcases ha with rfl | rfl | rfl
      · exact (i0 i hi).1
      · have := i1 i hi; omega
      · simp [parts] at hi
end Go.Proofs.Ytdkimllfpiphgaa

/- UnmodelBack: what Read gives for what was coded. -/
namespace Go.Proofs.Ytdkimllfpiphgaa
open Go.RowKit

theorem plain_eq {r : R4} {n k : Int} {b : UInt8} {l d q : Int} {s : Sy} (hf : fitsZ r n k l d q = true) (hval : s.val = plainZ k b l d q) : ((s.k : Nat) : Int) = k ∧ distZ r (s.k : Nat) (s.d : Nat) (s.r : Nat) = distZ r k d q := by
  obtain ⟨sk, sb, sl, sd, sr⟩ := s
  rcases fitsZ_cases hf with rfl | ⟨rfl, _⟩ | ⟨rfl, _⟩
  · simp [Sy.val, plainZ] at hval
    obtain ⟨rfl, _⟩ := hval
    exact ⟨rfl, rfl⟩
  · simp [Sy.val, plainZ] at hval
    obtain ⟨h1, _, _, h2, _⟩ := hval
    simp only
    rw [h1]
    unfold distZ
    rw [if_pos rfl, if_pos rfl, h2]
    exact ⟨rfl, rfl⟩
  · simp [Sy.val, plainZ] at hval
    obtain ⟨h1, _, _, _, h2⟩ := hval
    simp only
    rw [h1]
    unfold distZ
    simp [h2]
def FarIs (M : Nat → MSt) (ss : List Sy) (fr : Nat) : Prop := 1 ≤ fr ∧ (∀ i (hi : i < ss.length), ss[i].k ≠ 0 → distZ (M i).r (ss[i].k : Nat) (ss[i].d : Nat) (ss[i].r : Nat) ≤ (fr : Int)) ∧ (fr = 1 ∨ ∃ i, ∃ hi : i < ss.length, ss[i].k ≠ 0 ∧ distZ (M i).r (ss[i].k : Nat) (ss[i].d : Nat) (ss[i].r : Nat) = (fr : Int)) ∧ fr ≤ 1000000
def LastIs (M : Nat → MSt) (ss : List Sy) (la : Nat) : Prop := (ss.length = 0 ∧ la = 0) ∨ ∃ m, ss.length = m + 1 ∧ (M m).H.length + la = (M (m + 1)).H.length
theorem FarIs.snoc {M : Nat → MSt} {ss : List Sy} {fr fr' : Nat} {s : Sy} {b : MSt} {bk : Nat} (h : FarIs M ss fr) (hb : distZ (M ss.length).r (s.k : Nat) (s.d : Nat) (s.r : Nat) = (bk : Int)) (hk : s.k = 0 → bk = 0) (hbk : bk ≤ 1000000) (hf : fr' = max fr bk) : FarIs (fun t => if t ≤ ss.length then M t else b) (ss ++ [s]) fr' := by
  obtain ⟨h1, h2, h3, h4⟩ := h
  refine ⟨by clear h3; omega, fun i hi hki => ?_, ?_, by clear h3; omega⟩
  · clear h3
    have hi' : i < ss.length + 1 := by simpa using hi
    show distZ (if i ≤ ss.length then M i else b).r _ _ _ ≤ _
    rw [if_pos (by omega)]
    by_cases h : i < ss.length
    · rw [List.getElem_append_left h] at hki ⊢
      have := h2 i h hki
      omega
    · obtain rfl : i = ss.length := by omega
      have e : (ss ++ [s])[ss.length] = s := by simp
      rw [e, hb]; omega
  · by_cases hmax : fr < bk
    · clear h3
      refine .inr ⟨ss.length, by simp, ?_, ?_⟩
      · have e : (ss ++ [s])[ss.length]'(by simp) = s := by simp
        rw [e]
        intro h0
        have := hk h0
        omega
      · have e : (ss ++ [s])[ss.length]'(by simp) = s := by simp
        show distZ (if ss.length ≤ ss.length then M ss.length else b).r _ _ _ = _
        rw [if_pos (Nat.le_refl _), e, hb]; omega
    · have hfr : fr' = fr := by clear h3; omega
      rcases h3 with h3 | ⟨i, hi, hki, hd⟩
      · exact .inl (by omega)
      · refine .inr ⟨i, by simp; omega, ?_, ?_⟩
        · rw [List.getElem_append_left hi]; exact hki
        · show distZ (if i ≤ ss.length then M i else b).r _ _ _ = _
          rw [if_pos (by omega), List.getElem_append_left hi, hd, hfr]
theorem LastIs.snoc {M : Nat → MSt} {ss : List Sy} {la' : Nat} {s : Sy} {b : MSt} (h : (M ss.length).H.length + la' = b.H.length) : LastIs (fun t => if t ≤ ss.length then M t else b) (ss ++ [s]) la' := by
  refine .inr ⟨ss.length, by simp, ?_⟩
  show (if ss.length ≤ ss.length then M ss.length else b).H.length + la' = (if ss.length + 1 ≤ ss.length then M (ss.length + 1) else b).H.length
  rw [if_pos (Nat.le_refl _), if_neg (by omega)]; exact h
section
variable {g lc lp pb : Nat} {ss : List Sy} {M : Nat → MSt} {L : List UInt8} {gd o cap : Nat} {H0 : List UInt8}
theorem um_far (h : Chain g lc lp pb ss M) (h0 : M 0 = ⟨H0, 0, (1, 1, 1, 1), (fun _ => 1024, st0)⟩) (hok : (M ss.length).x.2.ok) (hL : L = Rc.be (5 + (M ss.length).x.2.k) (M ss.length).x.2.v) (hlp : lp ≤ 4) (hpb : pb ≤ 4) {fr : Nat} (hf : FarIs M ss fr) (h1 : 1 < fr) {many : Nat} (hm : H0.length + many = (M ss.length).H.length) :
    uread gd o cap L lc lp pb ((fr : Int) - 1) (H0.length - cutOf H0.length (max ((fr : Int) - 1) 1) + many) many (H0.drop (cutOf H0.length (max ((fr : Int) - 1) 1))) 0 (1, 1, 1, 1) (fun _ => 1024, Rd.start L) = none := by
  obtain ⟨_, h2, h3, _⟩ := hf
  rcases h3 with h3 | ⟨i, hi, hki, hd⟩
  · omega
  obtain ⟨t, ht, ⟨ht', hkt, hdt⟩, hmin⟩ := first_at (P := fun t => ∃ ht : t < ss.length, ss[t].k ≠ 0 ∧ (fr : Int) - 1 < distZ (M t).r (ss[t].k : Nat) (ss[t].d : Nat) (ss[t].r : Nat)) ss.length ⟨i, hi, hi, hki, by omega⟩
  refine um_bad h h0 hok hL hlp hpb ht' (fun j hj => ⟨?_, fun hkj => ?_⟩) ?_ hkt (.inl hdt)
  · rw [hm]
    have := h.mono (show j + 1 ≤ ss.length by omega) (Nat.le_refl _)
    omega
  · rcases Int.lt_or_le ((fr : Int) - 1) (distZ (M j).r (ss[j].k : Nat) (ss[j].d : Nat) (ss[j].r : Nat)) with hc | hc
    · exact absurd ⟨by omega, hkj, hc⟩ (hmin j hj)
    · exact hc
  · rw [hm]
    have := h.mono (Nat.le_of_lt ht') (Nat.le_refl _)
    omega
theorem um_short (h : Chain g lc lp pb ss M) (h0 : M 0 = ⟨H0, 0, (1, 1, 1, 1), (fun _ => 1024, st0)⟩) (hok : (M ss.length).x.2.ok) (hL : L = Rc.be (5 + (M ss.length).x.2.k) (M ss.length).x.2.v) (hlp : lp ≤ 4) (hpb : pb ≤ 4) {fr la : Nat} (hf : FarIs M ss fr) (hla : LastIs M ss la) (h1 : 1 < la) {many : Nat} (hm : H0.length + many + 1 = (M ss.length).H.length) :
    uread gd o cap L lc lp pb (fr : Int) (H0.length - cutOf H0.length (max (fr : Int) 1) + many) many (H0.drop (cutOf H0.length (max (fr : Int) 1))) 0 (1, 1, 1, 1) (fun _ => 1024, Rd.start L) = none := by
  rcases hla with ⟨_, hla⟩ | ⟨m, hml, hla⟩
  · omega
  have hmt : m < ss.length := by omega
  have hg := (h m hmt).grows
  rw [hml] at hm
  have hk : ss[m].k ≠ 0 := by
    intro hk
    rw [if_pos hk] at hg
    omega
  rw [if_neg hk] at hg
  refine um_bad h h0 hok hL hlp hpb hmt (fun j hj => ⟨?_, fun hkj => hf.2.1 j (by omega) hkj⟩) (by omega) hk (.inr (by omega))
  have := h.mono (show j + 1 ≤ m by omega) (Nat.le_of_lt hmt)
  omega
end
def ReadsOk (g2 o2 cap2 : Nat) (LB : List UInt8) (D Mb : Nat) (WB : List UInt8) (w : World) (e : Ending) (w' : World) : Prop :=
  ∃ A9 c9, e = .returned (.tuple #[.slice A9 WB.length c9, .int .i64 0]) ∧ WB.length ≤ c9 ∧ c9 ≤ 9223372036854775807 ∧ Bytes w' A9 WB ∧ Only (D :: Mb :: [g2, o2]) w w' ∧ ∃ z, DecIs w' g2 o2 cap2 LB z ∧ z.done LB = true
def ReadsNone (g2 o2 D Mb : Nat) (w : World) (e : Ending) (w' : World) : Prop := e = .returned (.tuple #[.slice none 0 0, .int .i64 6]) ∧ Only (D :: Mb :: [g2, o2]) w w'
theorem read_ok {g lc lp pb : Nat} {ss : List Sy} {M : Nat → MSt} {LB : List UInt8} {g2 o2 cap2 D Mb : Nat} {H0 : List UInt8} {w : World} (h : Chain g lc lp pb ss M) (h0 : M 0 = ⟨H0, 0, (1, 1, 1, 1), (fun _ => 1024, st0)⟩) (hok : (M ss.length).x.2.ok) (hL : LB = Rc.be (5 + (M ss.length).x.2.k) (M ss.length).x.2.v)
    (hms : MS (decIo g2 o2 cap2 LB) w D Mb lc lp pb 0 (1, 1, 1, 1) (fun _ => 1024, Rd.start LB) [g2, o2]) (hdo : (Rd.start LB).ok LB ∧ LB.length ≤ 140737488355328) (hlc : lc ≤ 4) (hlp : lp ≤ 4) (hpb : pb ≤ 4) (A : Option Addr) (c : Nat) (hB : Bytes w A H0) (hc : H0.length ≤ c) (hH : H0.length ≤ 1000000) {fr : Nat} (hf : FarIs M ss fr) {WB : List UInt8} (hW : WB = (M ss.length).H.drop H0.length) (hWl : WB.length ≤ 1000000) :
    Calls Try.prog 10 #[PF g2, PF D, .slice A H0.length c, .int .i64 (WB.length : Nat), .int .i64 (fr : Nat)] w (ReadsOk g2 o2 cap2 LB D Mb WB w) := by
  obtain ⟨f1, f2, _, f4⟩ := hf
  have hlen : H0.length ≤ (M ss.length).H.length := by
    have := h.mono (Nat.zero_le _) (Nat.le_refl _)
    rw [h0] at this
    simp only at this
    omega
  have hWL : WB.length = (M ss.length).H.length - H0.length := by rw [hW, List.length_drop]
  obtain ⟨y', hsim, hu⟩ := um_ok (gd := g2) (o := o2) (cap := cap2) (dict := (fr : Nat)) h h0 hok hL hlp hpb f2 (many := WB.length) (by omega)
  have hrd := umread_good hms hlc hlp hpb (by decide) rGood1 hdo A H0 c hB hc hH WB.length hWl (fr : Nat) (by omega) (by omega)
  refine hrd.mono fun e w' hd => ?_
  have hd2 : UmDone g2 o2 cap2 LB D Mb lc lp pb [g2, o2] (H0.length - cutOf H0.length (max ((fr : Nat) : Int) 1)) (some ((M ss.length).H.drop (cutOf H0.length (max ((fr : Nat) : Int) 1)), (M ss.length).st, (M ss.length).r, y')) w e w' := Eq.mp (congrArg (fun res => UmDone g2 o2 cap2 LB D Mb lc lp pb [g2, o2] (H0.length - cutOf H0.length (max ((fr : Nat) : Int) 1)) res w e w') hu) hd
  obtain ⟨A9, c9, rfl, hc9, hm9, hB9, X9, hM9, hon9, _⟩ := hd2
  have hcl := cutOf_le H0.length (show 0 ≤ max ((fr : Nat) : Int) 1 by omega)
  have e1 : ((M ss.length).H.drop (cutOf H0.length (max ((fr : Nat) : Int) 1))).length - (H0.length - cutOf H0.length (max ((fr : Nat) : Int) 1)) = WB.length := by rw [List.length_drop, hWL]; omega
  have e2 : ((M ss.length).H.drop (cutOf H0.length (max ((fr : Nat) : Int) 1))).drop (H0.length - cutOf H0.length (max ((fr : Nat) : Int) 1)) = WB := by
    rw [List.drop_drop, show cutOf H0.length (max ((fr : Nat) : Int) 1) + (H0.length - cutOf H0.length (max ((fr : Nat) : Int) 1)) = H0.length by omega]; exact hW.symm
  rw [e1] at hc9
  rw [e2] at hB9
  refine ⟨A9, c9, by rw [e1], hc9, hm9, hB9, hon9, y'.2, ?_, ?_⟩
  · obtain rfl : X9 = [g2, o2] := hM9.io.1
    exact hM9.io.2
  · exact sim_done (S := (M ss.length).x.2) (P := (M ss.length).x.1) hL hsim
theorem read_none {lc lp pb : Nat} {LB : List UInt8} {g2 o2 cap2 D Mb : Nat} {H0 : List UInt8} {w : World}
    (hms : MS (decIo g2 o2 cap2 LB) w D Mb lc lp pb 0 (1, 1, 1, 1) (fun _ => 1024, Rd.start LB) [g2, o2]) (hdo : (Rd.start LB).ok LB ∧ LB.length ≤ 140737488355328) (hlc : lc ≤ 4) (hlp : lp ≤ 4) (hpb : pb ≤ 4) (A : Option Addr) (c : Nat) (hB : Bytes w A H0) (hc : H0.length ≤ c) (hH : H0.length ≤ 1000000) {dict : Int} (hd1 : 1 ≤ dict) (hd2 : dict ≤ 1000000) {many : Nat} (hmany : many ≤ 1000000)
    (hu : uread g2 o2 cap2 LB lc lp pb dict (H0.length - cutOf H0.length (max dict 1) + many) many (H0.drop (cutOf H0.length (max dict 1))) 0 (1, 1, 1, 1) (fun _ => 1024, Rd.start LB) = none) :
    Calls Try.prog 10 #[PF g2, PF D, .slice A H0.length c, .int .i64 (many : Nat), .int .i64 dict] w (ReadsNone g2 o2 D Mb w) := by
  have hrd := umread_good hms hlc hlp hpb (by decide) rGood1 hdo A H0 c hB hc hH many hmany dict hd1 (by omega)
  refine hrd.mono fun e w' hd => ?_
  exact (Eq.mp (congrArg (fun res => UmDone g2 o2 cap2 LB D Mb lc lp pb [g2, o2] (H0.length - cutOf H0.length (max dict 1)) res w e w') hu) hd : UmDone g2 o2 cap2 LB D Mb lc lp pb [g2, o2] (H0.length - cutOf H0.length (max dict 1)) none w e w')
end Go.Proofs.Ytdkimllfpiphgaa

/- UnmodelBack: for every input the law returns true. -/
namespace Go.Proofs.Ytdkimllfpiphgaa
open Go.RowKit

set_option maxRecDepth 100000 in
set_option maxHeartbeats 4000000 in
theorem unback_law (lc lp pb : Int) (A : Option Addr) (H0 : List UInt8) (c : Nat) (A1 : Option Addr) (l : List SyI) (c1 : Nat) (w : World) (_ : -9223372036854775808 ≤ lc) (_ : lc ≤ 9223372036854775807) (_ : -9223372036854775808 ≤ lp) (_ : lp ≤ 9223372036854775807) (_ : -9223372036854775808 ≤ pb) (_ : pb ≤ 9223372036854775807)
    (hB : Bytes w A H0 ∧ ∀ a, A = some a → a.block < w.heap.size) (hc : H0.length ≤ c) (hm : c ≤ 9223372036854775807) (hS : Syms w A1 l) (hc1 : l.length ≤ c1) (hm1 : c1 ≤ 9223372036854775807) :
    Calls Try.prog 4 #[.int .i64 lc, .int .i64 lp, .int .i64 pb, .slice A H0.length c, .slice A1 l.length c1] w (Holds w) := by
  have hmi : (H0.length : Int) ≤ 9223372036854775807 := by omega
  have hmi1 : (l.length : Int) ≤ 9223372036854775807 := by omega
  by_cases hout : (300 : Int) < (H0.length : Int) ∨ (60 : Int) < (l.length : Int)
  · have hs : ((300 : Int) < (H0.length : Int)) ∨ (¬ (300 : Int) < (H0.length : Int) ∧ (60 : Int) < (l.length : Int)) := by omega
    clear hout hB hS
    rcases hs with g1 | ⟨g1, g2⟩
    all_goals
      go_enter Try.func4, Try.ntmps4
      go_wp2_with fail
      refine (knows_any _).mono ?_
      rintro e w1 ⟨rfl, hb⟩
      go_wp2_with fail
      go_ret
      exact ⟨rfl, hb⟩
  have i1 : ¬ (300 : Int) < (H0.length : Int) := by omega
  have i2 : ¬ (60 : Int) < (l.length : Int) := by omega
  have hMAY := Lib.hid (fun w => may_any lc lp pb w)
  cases hp : permB lc lp pb with
  | false =>
    rw [hp] at hMAY
    clear hp hB hS hout
    go_enter Try.func4, Try.ntmps4
    go_wp2_with fail
    refine (hMAY.out _).mono ?_
    rintro e w2 ⟨rfl, rfl⟩
    go_wp2_with fail
    refine (knows_any _).mono ?_
    rintro e w3 ⟨rfl, hb⟩
    go_wp2_with fail
    go_ret
    exact ⟨rfl, hb⟩
  | true =>
    rw [hp] at hMAY
    have hp' := of_decide_eq_true hp
    clear hp
    obtain ⟨lc, rfl⟩ : ∃ n : Nat, lc = n := ⟨lc.toNat, by omega⟩
    obtain ⟨lp, rfl⟩ : ∃ n : Nat, lp = n := ⟨lp.toNat, by omega⟩
    obtain ⟨pb, rfl⟩ : ∃ n : Nat, pb = n := ⟨pb.toNat, by omega⟩
    have hlc : lc ≤ 4 := by omega
    have hlp : lp ≤ 4 := by omega
    have hpb : pb ≤ 4 := by omega
    have hlcp : lc + lp ≤ 4 := by omega
    have HNG := Lib.hid (fun w => mnew_good lc lp pb w hlc hlp hpb hlcp)
    have HPAR := Lib.hid (And.intro hlc (And.intro hlp (And.intro hpb hlcp)))
    have HNC := Lib.hid (fun w => newC_any lc lp pb (by omega) w)
    have HSYM := Lib.hid (fun (n : Nat) (hn : n < l.length) => syms_at hS hn)
    have HB := Lib.hid hB
    have HC := Lib.hid hc
    have HCM := Lib.hid hm
    have hli : (l.length : Int) ≤ 60 := by omega
    have hl60 : l.length ≤ 60 := by omega
    have hHi : (H0.length : Int) ≤ 300 := by omega
    have hH300 : H0.length ≤ 300 := by omega
    have HL60 := Lib.hid hl60
    have HH300 := Lib.hid hH300
    have e01 : decide ((300 : Int) < (H0.length : Int)) = false := decide_eq_false i1
    have e02 : decide ((60 : Int) < (l.length : Int)) = false := decide_eq_false i2
    have hc1i : (l.length : Int) ≤ (c1 : Int) := by omega
    clear hp' hB hS hout hlc hlp hpb hlcp hl60 hH300 i1 i2 hc hm
    go_enter Try.func4, Try.ntmps4
    go_wp2_with fail
    refine (hMAY.out _).mono ?_
    rintro e w1' ⟨rfl, rfl⟩
    go_wp2_with fail
    refine (HNG.out _).mono ?_
    rintro e w1 ⟨C, L, rfl, hM, hb1, hC, hL⟩
    have HM := Lib.hid (And.intro hM (And.intro hb1 (And.intro hC hL)))
    clear hM hb1 hC hL
    go_wp2_with fail
    refine (new_any _).mono ?_
    rintro e w3 ⟨g, oE, capE, rfl, hE, hb3, hg, ho⟩
    have HE := Lib.hid (And.intro hE (And.intro hb3 (And.intro hg ho)))
    clear hE hb3 hg ho
    go_wp2_with fail
    refine (HNC.out w3).mono ?_
    rintro e w4 ⟨C2, vR, vP, rfl, hco, hb4, hC2⟩
    obtain ⟨p, hT⟩ := lp_start0 HM.out.1 HM.out.2.1 HM.out.2.2.1 HM.out.2.2.2 HE.out.1 HE.out.2.1 HE.out.2.2.1 HE.out.2.2.2 hco hb4 hC2 HB.out.1 HB.out.2 HC.out HCM.out
    have HT := Lib.hid hT
    obtain ⟨base, hbase⟩ : ∃ b, w3.heap.size = b := ⟨_, rfl⟩
    rw [hbase] at HT
    clear hco hb4 hC2 hT hbase HM HE
    go_wp2_with fail
    go_loopw [15, 16, 17, 18] (fun hs fs las i wr => ∃ (n : Nat) (H : List UInt8) (hv : Value) (st : Nat) (r : R4) (x : PS) (X : List Nat) (ss : List Sy) (M : Nat → MSt) (p : Nat → List Nat) (fr la : Nat), hv = hs ∧ fs = .int .i64 (fr : Nat) ∧ las = .int .i64 (la : Nat) ∧ i = .int .i64 (n : Nat) ∧ n ≤ l.length ∧ Hid (H.length ≤ 300 + 300 * n ∧ ss.length ≤ n) ∧ Hid (st < 12 ∧ rGood r ∧ (encIo g).ok x.2 (100 * (60 - n) + 100)) ∧ Hid (Lp w wr (encIo g) C L lc lp pb st r x X C2 base st r hv H (.slice none 0 0) [] (fun _ => True) (fun a => a ≠ 2) p) ∧ Hid (Chain g lc lp pb ss M ∧ M 0 = ⟨H0, 0, (1, 1, 1, 1), (fun _ => 1024, st0)⟩ ∧ M ss.length = ⟨H, st, r, x⟩) ∧ Hid (FarIs M ss fr) ∧ Hid (LastIs M ss la) ∧ fr ≤ 1000000 ∧ la ≤ 1000000) (fun _ _ _ i _ => 60 - (intOf i).toNat)
    case atStart => exact ⟨0, H0, _, 0, (1, 1, 1, 1), (fun _ => 1024, st0), _, [], fun _ => ⟨H0, 0, (1, 1, 1, 1), (fun _ => 1024, st0)⟩, p, 1, 0, rfl, rfl, rfl, rfl, Nat.zero_le _, Lib.hid ⟨by have := HH300.out; omega, Nat.le_refl _⟩, Lib.hid ⟨by decide, rGood1, st0_oks g _ (by decide)⟩, HT, Lib.hid ⟨fun t ht => by simp at ht, rfl, rfl⟩, Lib.hid ⟨Nat.le_refl _, fun i hi => by simp at hi, .inl rfl, by decide⟩, Lib.hid (.inl ⟨rfl, rfl⟩), by decide, by decide⟩
    case round =>
      obtain ⟨n, H, hv, st, r, x, X, ss, M, p, fr, la, rfl, rfl, rfl, rfl, hn, HHL, HST, HT, HCH, HFAR, HLAS, hfr6, hla6⟩ := hrel
      have hfri : (fr : Int) ≤ 1000000 := by omega
      have hlai : (la : Int) ≤ 1000000 := by omega
      have hfr1 : (1 : Int) ≤ (fr : Int) := by have := HFAR.out.1; omega
      obtain ⟨AH, cH, eH, hcH, hmH, hBH, hAH⟩ := HT.out.hist
      subst eH
      have hHl : H.length ≤ 1000000 := by have := HHL.out; have := HL60.out; omega
      have hHli : (H.length : Int) ≤ 1000000 := by omega
      have hcHi : (H.length : Int) ≤ (cH : Int) := by omega
      have HCH2 := Lib.hid hcH
      have HHL2 := Lib.hid hHl
      have HHM : Hid (H0.length ≤ H.length) := Lib.hid (by
        have h := HCH.out.1.mono (Nat.zero_le _) (Nat.le_refl _)
        rw [HCH.out.2.1, HCH.out.2.2] at h
        simp only at h
        omega)
      by_cases hnl : n < l.length
      · have hni : (n : Int) < (l.length : Int) := by omega
        obtain ⟨b, off, hA1, hcells⟩ := HSYM.out n hnl
        subst hA1
        obtain ⟨⟨sk, sb, sl, sd, sq⟩, hs⟩ : ∃ s, l[n] = s := ⟨_, rfl⟩
        rw [hs] at hcells
        simp only at hcells
        have HSYB := Lib.hid hcells
        have HN60 : Hid (n < 60) := Lib.hid (by have := HL60.out; omega)
        obtain ⟨Pl, vR5, vP5, hco5, _⟩ := HT.out.cod
        have HFI := Lib.hid (fits_any C2 base lc lp pb st r Pl vR5 vP5 AH H.length cH sk sb sl sd sq wr hco5)
        clear hcells hs hBH hAH hcH hco5 hmH
        obtain ⟨q0, q1, q2, q3, q4⟩ := HSYB.out _ HT.out.below
        cases hf : fitsZ r (H.length : Int) sk sl sd sq with
        | false =>
          rw [hf] at HFI
          clear hf
          go_wp2_with fail
          refine HFI.out.mono ?_
          rintro e w5 ⟨rfl, hb5⟩
          have HT5 := Lib.hid (HT.out.next hb5)
          clear q0 q1 q2 q3 q4
          clear hb5
          go_wp2_with fail
          exact ⟨⟨n + 1, H, _, st, r, x, X, ss, M, p, fr, la, rfl, rfl, rfl, by go_num, by omega, Lib.hid (by have := HHL.out; omega), Lib.hid ⟨HST.out.1, HST.out.2.1, (encIo g).le HST.out.2.2 (by omega)⟩, HT5, HCH, HFAR, HLAS, hfr6, hla6⟩, by simp [intOf]; have := HN60.out; omega⟩
        | true =>
          rw [hf] at HFI
          obtain ⟨s', st2, r2, z, hsym, hr2, hst2, hval, hlink⟩ := fits_link (g := g) (lc := lc) (lp := lp) (pb := pb) (a := ⟨H, st, r, x⟩) (b := sb) HST.out.2.1 hf
          simp only at hsym hr2 hst2
          obtain ⟨bk, hbk, hbk2, hq03, hl273⟩ := dist_back HST.out.2.1 hf
          obtain ⟨hpk, hpd⟩ := plain_eq hf hval
          have HPL := Lib.hid (And.intro hpk hpd)
          have HF := Lib.hid hf
          have HSYMZ := Lib.hid hsym
          have HLK := Lib.hid (hlink bk hbk)
          have HBK0 : Hid (sk = 0 → bk = 0) := Lib.hid (fun h => by
            have : distZ r sk sd sq = 0 := by unfold distZ; rw [h]; rfl
            omega)
          have HBK := Lib.hid (And.intro hbk (And.intro hbk2 (And.intro hq03 hl273)))
          have HST2 := Lib.hid (And.intro hst2 hr2)
          have hbk6 : bk ≤ 1000000 := by
            by_cases h : sk = 0
            · have := HBK0.out h; omega
            · have := hbk2 h; omega
          have hbki : (bk : Int) ≤ 1000000 := by omega
          clear hf hsym hlink hval hbk hbk2 hq03 hl273 hst2 hr2 hpk hpd
          go_wp2_with fail
          refine HFI.out.mono ?_
          rintro e w5 ⟨rfl, hb5⟩
          have HT5 := Lib.hid (HT.out.next hb5)
          obtain ⟨hB5, hA5⟩ := HT5.out.hist.bytes
          have HP := Lib.hid (put_yes HT5.out.ms HPAR.out.1 HPAR.out.2.1 HPAR.out.2.2.1 HST.out.1 HST.out.2.1 (k := 100 * (60 - (n + 1)) + 100) AH H cH hB5 HCH2.out (by omega) (fun a e => fun hm => HT5.out.sep.dis 0 2 (by decide) (by decide) _ (by rw [HT5.out.p0]; exact hm) (hA5 a e)) sk sb sl sd sq HF.out HSYMZ.out ((encIo g).le HST.out.2.2 (by have := HN60.out; omega)))
          clear q0 q1 q2 q3 q4
          clear hb5 hB5 hA5
          obtain ⟨q0, q1, q2, q3, q4⟩ := HSYB.out _ HT5.out.below
          go_wp2_with fail
          refine HP.out.mono ?_
          rintro e w6 ⟨⟨rfl, hw6⟩, _, _, _, _, hst12, hrg, hok6⟩
          obtain ⟨X6, p6, hT6, _⟩ := HT5.out.code hw6
          have HT6 := Lib.hid hT6
          have HST6 := Lib.hid (And.intro hst12 (And.intro hrg hok6))
          obtain ⟨Pl6, vR6, vP6, hco6, _⟩ := HT6.out.cod
          have HDI := Lib.hid (dist_any C2 base lc lp pb st r Pl6 vR6 vP6 sk sb sl sd sq w6 hco6 HBK.out.2.2.1)
          rw [HBK.out.1] at HDI
          clear q0 q1 q2 q3 q4
          clear hw6 hst12 hrg hok6 hT6 hco6
          obtain ⟨q0, q1, q2, q3, q4⟩ := HSYB.out _ HT6.out.below
          go_wp2_with fail
          refine HDI.out.mono ?_
          rintro e w7 ⟨rfl, hb7⟩
          have HT7 := Lib.hid (HT6.out.next hb7)
          obtain ⟨Pl7, vR7, vP7, hco7, hfin⟩ := HT7.out.bec
          have hbe := becomes_ints hco7 HT7.out.base HST.out.1 HF.out (b := sb)
          rw [← HST2.out.1, ← HST2.out.2] at hbe
          have HBE := Lib.hid hbe
          have HFIN := Lib.hid hfin
          clear q0 q1 q2 q3 q4
          clear hb7 hco7 hfin hbe
          obtain ⟨q0, q1, q2, q3, q4⟩ := HSYB.out _ HT7.out.below
          go_wp2_with fail
          refine HBE.out.mono ?_
          intro e w8 h8
          obtain ⟨rfl, p8, hT8, _⟩ := HFIN.out _ _ _ _ h8
          have HT8 := Lib.hid hT8
          obtain ⟨hB8, _⟩ := HT8.out.hist.bytes
          obtain ⟨hH9, hgr⟩ := sy_grow (b := sb) (l := sl) (d := sd) (q := sq) hB8 HCH2.out HHL2.out HBK.out.2.1 HBK.out.2.2.2
          obtain ⟨H9, hH9e⟩ : ∃ H9, growS H sk sb sl.toNat bk = H9 := ⟨_, rfl⟩
          rw [hH9e] at hH9 hgr
          have HLK9 : Hid (z.2.ok → Link g lc lp pb ⟨H, st, r, x⟩ s' ⟨H9, st2, r2, z⟩) := Lib.hid (fun h => by rw [← hH9e]; exact HLK.out h)
          have HGR := Lib.hid hgr
          have HH9 := Lib.hid hH9
          clear q0 q1 q2 q3 q4
          clear hT8 h8 hB8 hH9 hgr hH9e
          obtain ⟨q0, q1, q2, q3, q4⟩ := HSYB.out _ HT8.out.below
          go_wp2_with fail
          refine HGR.out.mono ?_
          rintro e w9 ⟨v9, rfl, ho9, hb9⟩
          obtain ⟨p9, hT9, _⟩ := HT8.out.grow hb9 ho9
          obtain ⟨A9, c9, rfl, hc9, hm9, _⟩ := ho9.read
          have HT9 := Lib.hid hT9
          have hlk9 := HLK9.out HST6.out.2.2.1
          have hge : H.length ≤ H9.length := by
            have h := hlk9.grows
            simp only at h
            omega
          obtain ⟨la2, hla2⟩ : ∃ la2, H9.length = H.length + la2 := ⟨H9.length - H.length, by omega⟩
          have hla2i : (H9.length : Int) - (H.length : Int) = (la2 : Int) := by omega
          have h9i : (H9.length : Int) ≤ 2000000 := by have := HH9.out; omega
          have hla6' : la2 ≤ 1000000 := by have := HH9.out; omega
          have hch := HCH.out.1.snoc (s := s') (b := ⟨H9, st2, r2, z⟩) (by rw [HCH.out.2.2]; exact hlk9)
          have HCHN : Hid (Chain g lc lp pb (ss ++ [s']) (fun t => if t ≤ ss.length then M t else ⟨H9, st2, r2, z⟩) ∧ (if 0 ≤ ss.length then M 0 else ⟨H9, st2, r2, z⟩) = ⟨H0, 0, (1, 1, 1, 1), (fun _ => 1024, st0)⟩ ∧ (if (ss ++ [s']).length ≤ ss.length then M (ss ++ [s']).length else ⟨H9, st2, r2, z⟩) = ⟨H9, st2, r2, z⟩) := Lib.hid ⟨hch.1, by rw [if_pos (Nat.zero_le _)]; exact HCH.out.2.1, hch.2⟩
          have HLASN : Hid (LastIs (fun t => if t ≤ ss.length then M t else ⟨H9, st2, r2, z⟩) (ss ++ [s']) la2) := Lib.hid (LastIs.snoc (by rw [HCH.out.2.2]; exact hla2.symm))
          have HFARN : Hid (∀ fr', fr' = max fr bk → FarIs (fun t => if t ≤ ss.length then M t else ⟨H9, st2, r2, z⟩) (ss ++ [s']) fr') := Lib.hid (fun fr' hf' => HFAR.out.snoc (bk := bk) (by rw [HCH.out.2.2]; show distZ r _ _ _ = _; rw [HPL.out.2]; exact HBK.out.1) (fun h => HBK0.out (by have := HPL.out.1; omega)) hbk6 hf')
          have HHN : Hid (H9.length ≤ 300 + 300 * (n + 1) ∧ (ss ++ [s']).length ≤ n + 1) := Lib.hid ⟨by have := HHL.out; have := HH9.out; omega, by have := HHL.out; simp; omega⟩
          clear q0 q1 q2 q3 q4
          clear ho9 hb9 hT9 HFI HP HDI HBE HFIN HGR HT5 HT6 HT7 HT8 hlk9 hge hla2 hch hc9 hm9
          by_cases hfb : fr < bk
          · have hfbi : (fr : Int) < (bk : Int) := by omega
            have hfbb : decide ((bk : Int) > (fr : Int)) = true := decide_eq_true hfbi
            have HF2 := Lib.hid (HFARN.out bk (by omega))
            clear hfb
            go_wp2_with fail
            exact ⟨⟨n + 1, _, _, st2, r2, z, X6, ss ++ [s'], _, p9, bk, la2, rfl, rfl, rfl, by go_num, by omega, HHN, HST6, HT9, HCHN, HF2, HLASN, hbk6, hla6'⟩, by simp [intOf]; have := HN60.out; omega⟩
          · have hfbi : ¬ (fr : Int) < (bk : Int) := by omega
            have hfbb : decide ((bk : Int) > (fr : Int)) = false := decide_eq_false hfbi
            have HF2 := Lib.hid (HFARN.out fr (by omega))
            clear hfb
            go_wp2_with fail
            exact ⟨⟨n + 1, _, _, st2, r2, z, X6, ss ++ [s'], _, p9, fr, la2, rfl, rfl, rfl, by go_num, by omega, HHN, HST6, HT9, HCHN, HF2, HLASN, hfr6, hla6'⟩, by simp [intOf]; have := HN60.out; omega⟩
      · have hnlb : decide ((n : Int) < (l.length : Int)) = false := decide_eq_false (by omega)
        obtain ⟨_, hKE, _⟩ := enc_ok_small ((encIo g).le HST.out.2.2 (show 100 ≤ _ by omega))
        have HKE := Lib.hid hKE
        have HOKX : Hid (x.2.ok) := Lib.hid HST.out.2.2.1
        obtain ⟨LB, hLB⟩ : ∃ LB, Rc.be (5 + x.2.k) x.2.v = LB := ⟨_, rfl⟩
        have hlenB : LB.length = 5 + x.2.k := by rw [← hLB]; exact Rc.be_length _ _
        have hz0 : LB.getD 0 0 = 0 := by rw [← hLB]; exact agree_zero (be_agree x.2) HOKX.out (by rw [Rc.be_length]; omega)
        have h5B : 5 ≤ LB.length := by omega
        have hmB : LB.length ≤ 140737488355328 := by omega
        have HLB0 := Lib.hid (And.intro hLB (And.intro hz0 (And.intro h5B hmB)))
        have hlBi : (LB.length : Int) ≤ 140737488355328 := by omega
        have HOKM : Hid ((M ss.length).x.2.ok) := Lib.hid (by rw [HCH.out.2.2]; exact HOKX.out)
        have HLBM : Hid (Rc.be (5 + x.2.k) x.2.v = LB → LB = Rc.be (5 + (M ss.length).x.2.k) (M ss.length).x.2.v) := Lib.hid (fun h => by rw [HCH.out.2.2]; exact h.symm)
        have HLMAX : Hid (LastIs M ss la → la ≤ H.length - H0.length) := Lib.hid (fun h => by
          rcases h with ⟨_, h⟩ | ⟨m, h1, h2⟩
          · omega
          · have h3 := HCH.out.1.mono (Nat.zero_le m) (show m ≤ ss.length by omega)
            have h4 : (M (m + 1)).H = H := by rw [← h1, HCH.out.2.2]
            have h5 : (M 0).H = H0 := by rw [HCH.out.2.1]
            rw [h5] at h3
            rw [h4] at h2
            omega)
        have hHHi : (H0.length : Int) ≤ (H.length : Int) := by have := HHM.out; omega
        have hBF := hBH.cutFrom HHM.out hcH
        have HBW1 := Lib.hid hBF
        have HCH3 : Hid (H.length ≤ cH) := Lib.hid hcH
        clear hKE hLB hlenB hz0 h5B hmB hBH hAH hBF hcH hmH HNC
        go_upto_region 25 with fail
        generalize hWV : Value.slice (if cH = H0.length then AH else Option.map (fun x => x.add H0.length) AH) (H.length - H0.length) (cH - H0.length) = WV
        obtain ⟨AW, cW, eW, hcW, hBW⟩ : ∃ AW cW, WV = .slice AW (H.length - H0.length) cW ∧ H.length - H0.length ≤ cW ∧ Bytes wr AW (H.drop H0.length) := ⟨_, _, hWV.symm, by have := HCH3.out; omega, HBW1.out⟩
        clear hWV
        subst eW
        obtain ⟨WB, hWB⟩ : ∃ WB, H.drop H0.length = WB := ⟨_, rfl⟩
        have hWl : H.length - H0.length = WB.length := by rw [← hWB, List.length_drop]
        rw [hWB] at hBW
        rw [hWl] at hcW ⊢
        have HWB := Lib.hid hWB
        have HWK := Lib.hid (fun W (hW : Below wr.heap.size wr W) => hBW.below hW)
        have HHE : Hid (H0.length + WB.length = (M ss.length).H.length) := Lib.hid (by rw [HCH.out.2.2]; show H0.length + WB.length = H.length; have := HHM.out; omega)
        have HWL := Lib.hid hWl
        have HBW := Lib.hid hBW
        have hWBi : (WB.length : Int) ≤ 1000000 := by have := HHL.out; have := HL60.out; omega
        have HWM : Hid (WB.length ≤ 1000000) := Lib.hid (by omega)
        have hcWi : (WB.length : Int) ≤ (cW : Int) := by omega
        have HCW := Lib.hid hcW
        have HLB : Hid (Rc.be (5 + x.2.k) x.2.v = LB ∧ LB.getD 0 0 = 0 ∧ 5 ≤ LB.length ∧ LB.length ≤ 140737488355328) := HLB0
        clear hWB hWl hBW hcW HLB0
        go_wp2_with fail
        obtain ⟨WX, hWX⟩ : ∃ W, W = wr := ⟨_, rfl⟩
        subst hWX
        go_loopw [22] (fun i wr2 => ∃ kk : Int, 0 ≤ kk ∧ kk ≤ 3 ∧ i = .int .i64 kk ∧ Hid (Below WX.heap.size WX wr2)) (fun i _ => 3 - (intOf i).toNat)
        case atStart => exact ⟨0, by decide, by decide, rfl, Lib.hid (Below.refl _ _)⟩
        case round =>
          obtain ⟨kk, hkk0, hkk, rfl, HBL⟩ := hrel
          have HTK := Lib.hid (HT.out.next HBL.out)
          have HWBK := Lib.hid (HBW.out.below HBL.out)
          have hkc : kk = 0 ∨ kk = 1 ∨ kk = 2 ∨ kk = 3 := by omega
          clear hkk0 hkk
          rcases hkc with rfl | rfl | rfl | rfl
          · obtain ⟨oE2, capE2, _, hE⟩ := HTK.out.ms.io
            have HBY := Lib.hid (bytes_any g oE2 capE2 x.2 _ hE HKE.out)
            rw [HLB.out.1] at HBY
            clear hE
            go_wp2_with fail
            refine HBY.out.mono ?_
            rintro e w5 ⟨v5, rfl, hO5, hb5⟩
            obtain ⟨A5, c5, rfl, hc5, hm5, hB5⟩ := hO5.read
            have HDN := Lib.hid (dnew_good A5 LB c5 w5 hB5 HLB.out.2.2.1 HLB.out.2.2.2 HLB.out.2.1)
            have HT5 := Lib.hid (HTK.out.next hb5)
            have HW5 := Lib.hid (HWBK.out.below hb5)
            have HB5 := Lib.hid (HBL.out.trans (hb5.mono HBL.out.size))
            clear hO5 hb5 hc5 hm5 hB5
            go_wp2_with fail
            refine HDN.out.mono ?_
            rintro e w6 ⟨g2, o2, cap2, rfl, hE2, hb6, hg2, ho2⟩
            have HE2 := Lib.hid (And.intro hE2 (And.intro hg2 ho2))
            have HT6 := Lib.hid (HT5.out.next hb6)
            have HW6 := Lib.hid (HW5.out.below hb6)
            have HB6 := Lib.hid (HB5.out.trans (hb6.mono HB5.out.size))
            clear hE2 hb6 hg2 ho2
            go_wp2_with fail
            refine (HNG.out w6).mono ?_
            rintro e w7 ⟨D, Mb, rfl, hMD, hb7, hD, hMb⟩
            have HT7 := Lib.hid (HT6.out.next hb7)
            have HW7 := Lib.hid (HW6.out.below hb7)
            have HB7 := Lib.hid (HB6.out.trans (hb7.mono HB6.out.size))
            have hms2 : MS (decIo g2 o2 cap2 LB) w7 D Mb lc lp pb 0 (1, 1, 1, 1) (fun _ => 1024, Rd.start LB) [g2, o2] := by
              obtain ⟨_, _, _, hT⟩ := id HE2.out.1
              have h1 := hT.glt
              have h2 := hT.lt
              exact ⟨hMD, ⟨rfl, HE2.out.1.below hb7⟩, by simp; omega, by simp; omega⟩
            have HMS2 := Lib.hid hms2
            have HLO7 : Hid (∀ i ∈ D :: Mb :: [g2, o2], WX.heap.size ≤ i) := Lib.hid (by
              intro i hi
              have s5 := HB5.out.size
              have s6 := HB6.out.size
              have h1 := HE2.out.2
              simp only [List.mem_cons, List.not_mem_nil, or_false] at hi
              rcases hi with rfl | rfl | rfl | rfl <;> omega)
            have HDO : Hid ((Rd.start LB).ok LB ∧ LB.length ≤ 140737488355328) := Lib.hid ⟨Rd.start_ok HLB.out.2.2.1, HLB.out.2.2.2⟩
            have HBH : Hid (Bytes w7 A H0) := Lib.hid (HB.out.1.below (HT.out.below.trans (HB7.out.mono HT.out.below.size)))
            clear hMD hb7 hD hMb hms2
            have HRD := Lib.hid (read_ok (lc := lc) (lp := lp) (pb := pb) HCH.out.1 HCH.out.2.1 HOKM.out (HLBM.out HLB.out.1) HMS2.out HDO.out HPAR.out.1 HPAR.out.2.1 HPAR.out.2.2.1 A c HBH.out HC.out (by have := HH300.out; omega) HFAR.out (WB := WB) (by rw [HCH.out.2.2]; exact HWB.out.symm) HWM.out)
            go_wp2_with fail
            refine HRD.out.mono ?_
            rintro e w8 ⟨A9, c9, rfl, hc9, hm9, hB9, hon8, z, hz, hdone⟩
            have HB8 := Lib.hid (Below.trans HB7.out (hon8.below HB7.out.size HLO7.out))
            have k1 := run_str hB9 c9
            have k2 := run_str (HWK.out w8 HB8.out) cW
            have hDO := done_any g2 o2 cap2 LB z w8 hz
            rw [hdone] at hDO
            have HDON := Lib.hid hDO
            clear hc9 hm9 hB9 hon8 hz hdone hDO
            go_wp2_with fail
            refine HDON.out.mono ?_
            rintro e w9 ⟨rfl, hb9⟩
            have HB9 := Lib.hid (HB8.out.trans (hb9.mono HB8.out.size))
            clear hb9
            go_wp2_with fail
            exact ⟨⟨1, by decide, by decide, rfl, HB9⟩, by simp [intOf]⟩
          · obtain ⟨oE2, capE2, _, hE⟩ := HTK.out.ms.io
            have HBY := Lib.hid (bytes_any g oE2 capE2 x.2 _ hE HKE.out)
            rw [HLB.out.1] at HBY
            clear hE
            go_wp2_with fail
            refine HBY.out.mono ?_
            rintro e w5 ⟨v5, rfl, hO5, hb5⟩
            obtain ⟨A5, c5, rfl, hc5, hm5, hB5⟩ := hO5.read
            have HDN := Lib.hid (dnew_good A5 LB c5 w5 hB5 HLB.out.2.2.1 HLB.out.2.2.2 HLB.out.2.1)
            have HT5 := Lib.hid (HTK.out.next hb5)
            have HW5 := Lib.hid (HWBK.out.below hb5)
            have HB5 := Lib.hid (HBL.out.trans (hb5.mono HBL.out.size))
            clear hO5 hb5 hc5 hm5 hB5
            go_wp2_with fail
            refine HDN.out.mono ?_
            rintro e w6 ⟨g2, o2, cap2, rfl, hE2, hb6, hg2, ho2⟩
            have HE2 := Lib.hid (And.intro hE2 (And.intro hg2 ho2))
            have HT6 := Lib.hid (HT5.out.next hb6)
            have HW6 := Lib.hid (HW5.out.below hb6)
            have HB6 := Lib.hid (HB5.out.trans (hb6.mono HB5.out.size))
            clear hE2 hb6 hg2 ho2
            go_wp2_with fail
            refine (HNG.out w6).mono ?_
            rintro e w7 ⟨D, Mb, rfl, hMD, hb7, hD, hMb⟩
            have HT7 := Lib.hid (HT6.out.next hb7)
            have HW7 := Lib.hid (HW6.out.below hb7)
            have HB7 := Lib.hid (HB6.out.trans (hb7.mono HB6.out.size))
            have hms2 : MS (decIo g2 o2 cap2 LB) w7 D Mb lc lp pb 0 (1, 1, 1, 1) (fun _ => 1024, Rd.start LB) [g2, o2] := by
              obtain ⟨_, _, _, hT⟩ := id HE2.out.1
              have h1 := hT.glt
              have h2 := hT.lt
              exact ⟨hMD, ⟨rfl, HE2.out.1.below hb7⟩, by simp; omega, by simp; omega⟩
            have HMS2 := Lib.hid hms2
            have HLO7 : Hid (∀ i ∈ D :: Mb :: [g2, o2], WX.heap.size ≤ i) := Lib.hid (by
              intro i hi
              have s5 := HB5.out.size
              have s6 := HB6.out.size
              have h1 := HE2.out.2
              simp only [List.mem_cons, List.not_mem_nil, or_false] at hi
              rcases hi with rfl | rfl | rfl | rfl <;> omega)
            have HDO : Hid ((Rd.start LB).ok LB ∧ LB.length ≤ 140737488355328) := Lib.hid ⟨Rd.start_ok HLB.out.2.2.1, HLB.out.2.2.2⟩
            have HBH : Hid (Bytes w7 A H0) := Lib.hid (HB.out.1.below (HT.out.below.trans (HB7.out.mono HT.out.below.size)))
            clear hMD hb7 hD hMb hms2
            by_cases hf1 : fr = 1
            · have hf1b : decide ((fr : Int) > 1) = false := decide_eq_false (by omega)
              have hf1i : ¬ (1 : Int) < (fr : Int) := by omega
              have HRD := Lib.hid (umread_bad g2 D A H0.length c (WB.length : Nat) ((fr : Int) - 1) (.inr (by omega)) w7)
              clear hf1
              go_wp2_with fail
              refine HRD.out.mono ?_
              rintro e w8 ⟨rfl, rfl⟩
              go_wp2_with fail
              exact ⟨⟨2, by decide, by decide, rfl, HB7⟩, by simp [intOf]⟩
            · have hf1b : decide ((fr : Int) > 1) = true := decide_eq_true (by have := HFAR.out.1; omega)
              have hf1i : (1 : Int) < (fr : Int) := by have := HFAR.out.1; omega
              have HRD := Lib.hid (read_none (lc := lc) (lp := lp) (pb := pb) HMS2.out HDO.out HPAR.out.1 HPAR.out.2.1 HPAR.out.2.2.1 A c HBH.out HC.out (by have := HH300.out; omega) (dict := (fr : Int) - 1) (by omega) (by omega) HWM.out (um_far HCH.out.1 HCH.out.2.1 HOKM.out (HLBM.out HLB.out.1) HPAR.out.2.1 HPAR.out.2.2.1 HFAR.out (by omega) HHE.out))
              clear hf1
              go_wp2_with fail
              refine HRD.out.mono ?_
              rintro e w8 ⟨rfl, hon8⟩
              have HB8 := Lib.hid (Below.trans HB7.out (hon8.below HB7.out.size HLO7.out))
              clear hon8
              go_wp2_with fail
              exact ⟨⟨2, by decide, by decide, rfl, HB8⟩, by simp [intOf]⟩
          · obtain ⟨oE2, capE2, _, hE⟩ := HTK.out.ms.io
            have HBY := Lib.hid (bytes_any g oE2 capE2 x.2 _ hE HKE.out)
            rw [HLB.out.1] at HBY
            clear hE
            go_wp2_with fail
            refine HBY.out.mono ?_
            rintro e w5 ⟨v5, rfl, hO5, hb5⟩
            obtain ⟨A5, c5, rfl, hc5, hm5, hB5⟩ := hO5.read
            have HDN := Lib.hid (dnew_good A5 LB c5 w5 hB5 HLB.out.2.2.1 HLB.out.2.2.2 HLB.out.2.1)
            have HT5 := Lib.hid (HTK.out.next hb5)
            have HW5 := Lib.hid (HWBK.out.below hb5)
            have HB5 := Lib.hid (HBL.out.trans (hb5.mono HBL.out.size))
            clear hO5 hb5 hc5 hm5 hB5
            go_wp2_with fail
            refine HDN.out.mono ?_
            rintro e w6 ⟨g2, o2, cap2, rfl, hE2, hb6, hg2, ho2⟩
            have HE2 := Lib.hid (And.intro hE2 (And.intro hg2 ho2))
            have HT6 := Lib.hid (HT5.out.next hb6)
            have HW6 := Lib.hid (HW5.out.below hb6)
            have HB6 := Lib.hid (HB5.out.trans (hb6.mono HB5.out.size))
            clear hE2 hb6 hg2 ho2
            go_wp2_with fail
            refine (HNG.out w6).mono ?_
            rintro e w7 ⟨D, Mb, rfl, hMD, hb7, hD, hMb⟩
            have HT7 := Lib.hid (HT6.out.next hb7)
            have HW7 := Lib.hid (HW6.out.below hb7)
            have HB7 := Lib.hid (HB6.out.trans (hb7.mono HB6.out.size))
            have hms2 : MS (decIo g2 o2 cap2 LB) w7 D Mb lc lp pb 0 (1, 1, 1, 1) (fun _ => 1024, Rd.start LB) [g2, o2] := by
              obtain ⟨_, _, _, hT⟩ := id HE2.out.1
              have h1 := hT.glt
              have h2 := hT.lt
              exact ⟨hMD, ⟨rfl, HE2.out.1.below hb7⟩, by simp; omega, by simp; omega⟩
            have HMS2 := Lib.hid hms2
            have HLO7 : Hid (∀ i ∈ D :: Mb :: [g2, o2], WX.heap.size ≤ i) := Lib.hid (by
              intro i hi
              have s5 := HB5.out.size
              have s6 := HB6.out.size
              have h1 := HE2.out.2
              simp only [List.mem_cons, List.not_mem_nil, or_false] at hi
              rcases hi with rfl | rfl | rfl | rfl <;> omega)
            have HDO : Hid ((Rd.start LB).ok LB ∧ LB.length ≤ 140737488355328) := Lib.hid ⟨Rd.start_ok HLB.out.2.2.1, HLB.out.2.2.2⟩
            have HBH : Hid (Bytes w7 A H0) := Lib.hid (HB.out.1.below (HT.out.below.trans (HB7.out.mono HT.out.below.size)))
            clear hMD hb7 hD hMb hms2
            by_cases hl1 : 1 < la
            · have hl1b : decide ((la : Int) > 1) = true := decide_eq_true (by omega)
              have hl1i : (1 : Int) < (la : Int) := by omega
              have hW1 : 1 ≤ WB.length := by have h := HLMAX.out HLAS.out; have := HWL.out; omega
              obtain ⟨m1, hm1⟩ : ∃ m1, WB.length = m1 + 1 := ⟨WB.length - 1, by omega⟩
              have hmi1 : (WB.length : Int) - 1 = (m1 : Int) := by omega
              have HRD := Lib.hid (read_none (lc := lc) (lp := lp) (pb := pb) HMS2.out HDO.out HPAR.out.1 HPAR.out.2.1 HPAR.out.2.2.1 A c HBH.out HC.out (by have := HH300.out; omega) (dict := (fr : Int)) (by have := HFAR.out.1; omega) (by omega) (many := m1) (by have := HWM.out; omega) (um_short HCH.out.1 HCH.out.2.1 HOKM.out (HLBM.out HLB.out.1) HPAR.out.2.1 HPAR.out.2.2.1 HFAR.out HLAS.out hl1 (by have := HHE.out; omega)))
              clear hl1 hm1 hW1
              go_wp2_with fail
              refine HRD.out.mono ?_
              rintro e w8 ⟨rfl, hon8⟩
              have HB8 := Lib.hid (Below.trans HB7.out (hon8.below HB7.out.size HLO7.out))
              clear hon8
              go_wp2_with fail
              exact ⟨⟨3, by decide, by decide, rfl, HB8⟩, by simp [intOf]⟩
            · have hl1b : decide ((la : Int) > 1) = false := decide_eq_false (by omega)
              have hl1i : ¬ (1 : Int) < (la : Int) := by omega
              clear hl1
              have HRD := Lib.hid (read_ok (lc := lc) (lp := lp) (pb := pb) HCH.out.1 HCH.out.2.1 HOKM.out (HLBM.out HLB.out.1) HMS2.out HDO.out HPAR.out.1 HPAR.out.2.1 HPAR.out.2.2.1 A c HBH.out HC.out (by have := HH300.out; omega) HFAR.out (WB := WB) (by rw [HCH.out.2.2]; exact HWB.out.symm) HWM.out)
              go_wp2_with fail
              refine HRD.out.mono ?_
              rintro e w8 ⟨A9, c9, rfl, hc9, hm9, hB9, hon8, z, hz, hdone⟩
              have HB8 := Lib.hid (Below.trans HB7.out (hon8.below HB7.out.size HLO7.out))
              clear hc9 hm9 hB9 hon8 hz hdone
              go_wp2_with fail
              exact ⟨⟨3, by decide, by decide, rfl, HB8⟩, by simp [intOf]⟩
          · go_wp2_with fail
            refine (knows_any _).mono ?_
            rintro e w9 ⟨rfl, hb9⟩
            go_wp2_with fail
            go_ret
            have hb := HT.out.below.trans (HBL.out.mono HT.out.below.size)
            exact ⟨rfl, hb.trans (hb9.mono hb.size)⟩
end Go.Proofs.Ytdkimllfpiphgaa
