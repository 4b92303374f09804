/- Several texts in one: UrDec, UrPackS. -/
import Derived.Test.YtkckjjchfccdjaaUrStore
import Derived.Test.YtkckjjchfccdjaaRdRNew
/- The document's Reader: its decoder of symbols, made of what it keeps, and what it keeps of that. -/
namespace Go.Proofs.Ytkckjjchfccdjaa
set_option maxRecDepth 100000
open Go.RowKit

theorem urd_make {base : Nat} {w w' : World} {s : CkS} {C h b off cc : Nat} {L : List UInt8} (hM : CodS1 base w C s) (hC : base ≤ C) (hD : RDecIs w h b off cc L (Rd.start L)) (hb : b < base) (hh : base ≤ h) (hw : w.alloc (.cells #[PF h, PF C] 71) = w') :
    ∃ Y, RD w' w.heap.size C base h b off cc (2180 + 768 * 2 ^ (s.lc + s.lp)) L (s.lc : Nat) (s.lp : Nat) (s.pb : Nat) (s.st : Nat) s.r (s.P, Rd.start L) Y ∧ (∀ i ∈ Y, base ≤ i) ∧ ∀ i ∈ Y, ∃ cs t x, w'.heap[i]? = some (.cells cs t x) ∧ (t = 94 ∨ t = 3 ∨ t = 34 ∨ t = 97) := by
  obtain ⟨Pl, vR, gR, gP, capP, hCo, hgR, hl, hp⟩ := hM.ex
  have hb' : Below w.heap.size w w' := by rw [← hw]; exact (Below.refl _ _).alloc (Nat.le_refl _) _
  have h1 := (hCo.reps.lt gR hgR).1
  have h2 := (hCo.ps.lt gP rfl).1
  have hCo' := hCo.below hb'
  have hD' := hD.below hb'
  obtain ⟨csR, xR, hrR⟩ := hCo'.reps.typed hgR
  obtain ⟨csP, xP, hrP⟩ := hCo'.ps.typed (g := gP) rfl
  refine ⟨[C, gR, gP, h], ⟨⟨Pl, vR, gR, gP, capP, hCo', hgR, hD', hl, hp, rfl⟩, by rw [← hw]; exact heap_alloc_last _ _, ?_, hM.fair⟩, ?_, ?_⟩
  · intro hm
    simp only [List.mem_cons, List.not_mem_nil, or_false] at hm
    omega
  · intro i hi
    simp only [List.mem_cons, List.not_mem_nil, or_false] at hi
    rcases hi with rfl | rfl | rfl | rfl <;> assumption
  · intro i hi
    simp only [List.mem_cons, List.not_mem_nil, or_false] at hi
    rcases hi with rfl | rfl | rfl | rfl
    · exact ⟨_, _, _, hCo'.box, .inl rfl⟩
    · exact ⟨_, _, _, hrR, .inr (.inl rfl)⟩
    · exact ⟨_, _, _, hrP, .inr (.inr (.inl rfl))⟩
    · obtain ⟨x, y, _, hA⟩ := hD'
      exact ⟨_, _, _, hA.blk, .inr (.inr (.inr rfl))⟩
theorem urk_through {k : RkP} {w x : World} {pos : Nat} {s : CkS} {cv : Value} {Y : List Nat} (h : RkB k w pos s cv) (hY : ∀ i ∈ Y, k.base ≤ i) (hT : ∀ i ∈ Y, ∃ cs t x, w.heap[i]? = some (.cells cs t x) ∧ (t = 94 ∨ t = 3 ∨ t = 34 ∨ t = 97)) (ho : Only Y w x) : RkB k x pos s cv := by
  have hbase := Nat.le_trans h.bsz h.below.size
  refine h.keep (ho.below hbase hY) fun i cs t z hi ht => ho.block i (Array.getElem?_eq_some_iff.1 hi).1 fun hm => ?_
  obtain ⟨cs', t', z', hc, ht'⟩ := hT i hm
  rw [hc] at hi
  injection hi with hi
  injection hi with _ e _
  subst e
  rcases ht' with rfl | rfl | rfl | rfl <;> revert ht <;> decide
theorem RkB.same {k : RkP} {w : World} {pos : Nat} {s s' : CkS} {cv : Value} (h : RkB k w pos s cv) (h1 : ∀ v, rkRow k pos v s cv = rkRow k pos v s' cv) (h2 : s'.out = s.out) (h3 : s'.start = s.start) : RkB k w pos s' cv := by
  obtain ⟨v, hr, ho⟩ := h.row
  exact ⟨⟨v, by rw [← h1]; exact hr, by rw [h2]; exact ho⟩, h.low, h.bytes, by rw [h2, h3]; exact h.nums, h.below, h.bsz⟩
theorem urd_back {base : Nat} {x : World} {R C h b off cc : Nat} {L : List UInt8} {s : CkS} {st : Nat} {r : R4} {y : PD} {Y : List Nat} (hM : RD x R C base h b off cc (2180 + 768 * 2 ^ (s.lc + s.lp)) L (s.lc : Nat) (s.lp : Nat) (s.pb : Nat) (st : Nat) r y Y) (out : List UInt8) : CodS1 base x C { s with out := out, st := st, r := r, P := y.1 } ∧ RDecIs x h b off cc L y.2 := by
  have hf := hM.fair
  obtain ⟨Pl, vR, gR, gP, capP, hCo, hgR, hD, hl, hp, _⟩ := hM.ex
  exact ⟨⟨⟨Pl, vR, gR, gP, capP, hCo, hgR, hl, hp⟩, hf⟩, hD⟩
theorem urd_new {base lc lp pb : Nat} {w w' : World} {C : Nat} {s : CkS} {vR vP : Value} (h : CodAt w' C w.heap.size (lc : Nat) (lp : Nat) (pb : Nat) ((0 : Nat) : Int) (1, 1, 1, 1) (List.replicate (2180 + 768 * 2 ^ (lc + lp)) 1024) vR vP) (hb : base ≤ w.heap.size) (h1 : s.lc = lc) (h2 : s.lp = lp) (h3 : s.pb = pb) : CodS1 base w' C (ckFresh s) := by
  subst h1; subst h2; subst h3
  obtain ⟨gR, capR, eR, hgR, _⟩ := h.reps.some_of_pos (show 0 < 4 by decide)
  have hlen : ((List.replicate (2180 + 768 * 2 ^ (s.lc + s.lp)) 1024).map fun x : Nat => Value.int .u16 (x : Nat)).length = 2180 + 768 * 2 ^ (s.lc + s.lp) := by simp
  obtain ⟨gP, capP, eP, hgP, _⟩ := h.ps.some_of_pos (by rw [hlen]; omega)
  rw [hlen] at eP
  subst eP
  refine ⟨⟨List.replicate (2180 + 768 * 2 ^ (s.lc + s.lp)) 1024, vR, gR, gP, capP, ⟨h.box, h.reps.weaken hb, h.ps.weaken hb⟩, by rw [eR]; rfl, ?_, ?_⟩, fun i => ⟨show 1 ≤ 1024 by decide, show 1024 ≤ 2047 by decide⟩⟩
  · show (List.replicate (2180 + 768 * 2 ^ (s.lc + s.lp)) 1024).length = 2180 + 768 * 2 ^ (s.lc + s.lp)
    simp
  · intro i hi
    have hi' : i < 2180 + 768 * 2 ^ (s.lc + s.lp) := hi
    rw [List.getElem?_replicate, if_pos hi']; rfl
end Go.Proofs.Ytkckjjchfccdjaa

/- The document's Reader: a packed chunk. -/
namespace Go.Proofs.Ytkckjjchfccdjaa
set_option maxRecDepth 100000
open Go.RowKit

set_option maxHeartbeats 1000000 in
theorem urunpack_asked {k : RkP} {w : World} {pos : Nat} {s : CkS} (h : Rk k w pos s) (c : Nat) (hc : c < 192) (ha : s.asked = true) : Calls Try.prog 14 #[PF k.R, .int .i64 (c : Nat)] w (RkDone k (.bad 6)) := by
  have HK := Lib.hid h
  obtain ⟨cv, hU, _⟩ := h
  obtain ⟨v, ⟨_, _, _, _, _, _, r6, _, _, _, _⟩, _, _, _⟩ := hU.cells
  rw [ha] at r6
  have hci : (c : Int) < 192 := by omega
  clear hU hc ha
  go_enter Try.func14, Try.ntmps14
  go_wp2_with fail
  go_ret
  exact ⟨rfl, HK.out.below⟩
set_option maxHeartbeats 16000000 in
theorem urunpack_shortL {k : RkP} {w : World} {pos : Nat} {s : CkS} (h : Rk k w pos s) (c : Nat) (hc1 : 128 ≤ c) (hc2 : c < 256) (hcl : s.clear = true) (hca : ¬ (c < 192 ∧ s.asked = true)) (ho : s.out.length ≤ 400000000) (hd1 : 1 ≤ k.dict) (hd2 : k.dict ≤ 9223372036854775807) (h1 : k.B.length < pos + 4) (hq : c < 192) :
    Calls Try.prog 14 #[PF k.R, .int .i64 (c : Nat)] w (RkDone k (unpackC k.B k.dict c pos s)) := by
  have hused := And.intro hcl ho
  clear hused
  have HK := Lib.hid h
  have HD := Lib.hid (And.intro hd1 hd2)
  have hci : (c : Int) < 256 := by omega
  have hci0 : (128 : Int) ≤ (c : Int) := by omega
  obtain ⟨cv, hU, hC⟩ := h
  obtain ⟨v, ⟨_, _, _, _, _, _, a6, _, _, _, _⟩, _, _, _⟩ := hU.cells
  have ha6 : (c : Int) < 192 → s.asked = false := fun h => by
    cases hq : s.asked with
    | false => rfl
    | true => exact absurd ⟨by omega, hq⟩ hca
  have HH := Lib.hid (urhas_any HK.out 4)
  obtain ⟨u, hu⟩ : ∃ u, ckTwo k.B pos = u := ⟨_, rfl⟩
  obtain ⟨t, ht⟩ : ∃ t, ckTwo k.B (pos + 2) = t := ⟨_, rfl⟩
  have hul : u < 65536 := by rw [← hu]; exact ckTwo_lt _ _
  have htl : t < 65536 := by rw [← ht]; exact ckTwo_lt _ _
  obtain ⟨n, hn⟩ : ∃ n, t + 1 = n := ⟨_, rfl⟩
  obtain ⟨m0, hm0⟩ : ∃ m, 65536 * (c % 32) = m := ⟨_, rfl⟩
  obtain ⟨z, hz⟩ : ∃ z, m0 + u + 1 = z := ⟨_, rfl⟩
  obtain ⟨pp, hpp⟩ : ∃ p, pos + 4 = p := ⟨_, rfl⟩
  have hti : (t : Int) + 1 = (n : Int) := by omega
  have hni : (n : Int) ≤ 65536 := by omega
  have hmi : 65536 * ((c : Int) % 32) = (m0 : Int) := by omega
  have hzi : (m0 : Int) + (u : Int) + 1 = (z : Int) := by omega
  have hzb : (z : Int) ≤ 4000000 := by omega
  have hui : (u : Int) < 65536 := by omega
  have hm0i : (m0 : Int) ≤ 3000000 := by omega
  have HZ := Lib.hid (show z ≤ 4000000 by omega)
  have HN65 := Lib.hid (show n ≤ 65536 by omega)
  have h192 : c < 192 := by omega
  have has : s.asked = false := ha6 (by omega)
  rw [has] at a6
  have g192 : decide ((c : Int) < 192) = true := decide_eq_true (by omega)
  have g192b : decide ((192 : Int) ≤ (c : Int)) = false := decide_eq_false (by omega)
  rw [decide_eq_false (show ¬ pos + 4 ≤ k.B.length by omega)] at HH
  have HR := Lib.hid (show unpackC k.B k.dict c pos s = .bad 2 by unfold unpackC; exact if_pos h1)
  clear hU hC ha6 hu ht hul htl hn hm0 hz hpp h192 h1 hc1 hc2 hcl hca ho hd1 hd2 has
  go_enter Try.func14, Try.ntmps14
  go_wp2_with fail
  refine HH.out.mono ?_
  rintro e w1 ⟨rfl, hb1⟩
  go_wp2_with fail
  go_ret
  rw [HR.out]
  exact ⟨rfl, (HK.out.of_below hb1).below⟩
set_option maxHeartbeats 16000000 in
theorem urunpack_shortH {k : RkP} {w : World} {pos : Nat} {s : CkS} (h : Rk k w pos s) (c : Nat) (hc1 : 128 ≤ c) (hc2 : c < 256) (hcl : s.clear = true) (hca : ¬ (c < 192 ∧ s.asked = true)) (ho : s.out.length ≤ 400000000) (hd1 : 1 ≤ k.dict) (hd2 : k.dict ≤ 9223372036854775807) (h1 : k.B.length < pos + 4) (hq : 192 ≤ c) :
    Calls Try.prog 14 #[PF k.R, .int .i64 (c : Nat)] w (RkDone k (unpackC k.B k.dict c pos s)) := by
  have hused := And.intro hcl ho
  clear hused
  have HK := Lib.hid h
  have HD := Lib.hid (And.intro hd1 hd2)
  have hci : (c : Int) < 256 := by omega
  have hci0 : (128 : Int) ≤ (c : Int) := by omega
  obtain ⟨cv, hU, hC⟩ := h
  obtain ⟨v, ⟨_, _, _, _, _, _, a6, _, _, _, _⟩, _, _, _⟩ := hU.cells
  have ha6 : (c : Int) < 192 → s.asked = false := fun h => by
    cases hq : s.asked with
    | false => rfl
    | true => exact absurd ⟨by omega, hq⟩ hca
  have HH := Lib.hid (urhas_any HK.out 4)
  obtain ⟨u, hu⟩ : ∃ u, ckTwo k.B pos = u := ⟨_, rfl⟩
  obtain ⟨t, ht⟩ : ∃ t, ckTwo k.B (pos + 2) = t := ⟨_, rfl⟩
  have hul : u < 65536 := by rw [← hu]; exact ckTwo_lt _ _
  have htl : t < 65536 := by rw [← ht]; exact ckTwo_lt _ _
  obtain ⟨n, hn⟩ : ∃ n, t + 1 = n := ⟨_, rfl⟩
  obtain ⟨m0, hm0⟩ : ∃ m, 65536 * (c % 32) = m := ⟨_, rfl⟩
  obtain ⟨z, hz⟩ : ∃ z, m0 + u + 1 = z := ⟨_, rfl⟩
  obtain ⟨pp, hpp⟩ : ∃ p, pos + 4 = p := ⟨_, rfl⟩
  have hti : (t : Int) + 1 = (n : Int) := by omega
  have hni : (n : Int) ≤ 65536 := by omega
  have hmi : 65536 * ((c : Int) % 32) = (m0 : Int) := by omega
  have hzi : (m0 : Int) + (u : Int) + 1 = (z : Int) := by omega
  have hzb : (z : Int) ≤ 4000000 := by omega
  have hui : (u : Int) < 65536 := by omega
  have hm0i : (m0 : Int) ≤ 3000000 := by omega
  have HZ := Lib.hid (show z ≤ 4000000 by omega)
  have HN65 := Lib.hid (show n ≤ 65536 by omega)
  have h192 : ¬ c < 192 := by omega
  have g192 : decide ((c : Int) < 192) = false := decide_eq_false (by omega)
  have g192b : decide ((192 : Int) ≤ (c : Int)) = true := decide_eq_true (by omega)
  have g160 : decide ((160 : Int) ≤ (c : Int)) = true := decide_eq_true (by omega)
  have h160 : ¬ c < 160 := by omega
  rw [decide_eq_false (show ¬ pos + 4 ≤ k.B.length by omega)] at HH
  have HR := Lib.hid (show unpackC k.B k.dict c pos s = .bad 2 by unfold unpackC; exact if_pos h1)
  clear hU hC ha6 hu ht hul htl hn hm0 hz hpp h192 h1 hc1 hc2 hcl hca ho hd1 hd2 h160
  go_enter Try.func14, Try.ntmps14
  go_wp2_with fail
  refine HH.out.mono ?_
  rintro e w1 ⟨rfl, hb1⟩
  go_wp2_with fail
  go_ret
  rw [HR.out]
  exact ⟨rfl, (HK.out.of_below hb1).below⟩
end Go.Proofs.Ytkckjjchfccdjaa
