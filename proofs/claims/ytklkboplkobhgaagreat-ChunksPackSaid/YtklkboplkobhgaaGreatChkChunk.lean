/- Chunks: the chunk of a part. -/
import Derived.Test.YtklkboplkobhgaaGreatChkTry
namespace Go.Proofs.YtklkboplkobhgaaGreat
set_option maxRecDepth 100000
open Go.RowKit

def propB (k : PkS) : UInt8 := UInt8.ofNat (k.lc + 9 * (k.lp + 5 * k.pb))
/-- A part as it is coded, with its head. -/
def packedOf (k : PkS) (a b : Nat) (s : CodS) (had : Bool) (r : List UInt8) : List UInt8 :=
  (([ctlB a had s] ++ twoB (b - a - 1)) ++ twoB (r.length - 1)) ++ (if 192 ≤ ctlB a had s then [propB k] else []) ++ r
/-- A part's chunk, and the coder then. -/
def chunkOf (k : PkS) (a b : Nat) (s : CodS) (had : Bool) : List UInt8 × CodS × Bool :=
  let r := codeOf k a b (codOf s)
  if b - a + 3 ≤ (packedOf k a b s had r.1).length ∨ 65536 < r.1.length then (storeOf k.D a b, none, had) else (packedOf k a b s had r.1, some r.2, true)
def ChunkDone (w : World) (p : Nat) (k : PkS) (Y : List Nat) (r : List UInt8 × CodS × Bool) (e : Ending) (w' : World) : Prop :=
  ∃ v Y', e = .returned (.tuple #[v, .int .i64 0]) ∧ Own w.heap.size w' v r.1 ∧ Pk w' p k r.2.1 r.2.2 Y' ∧ Only (p :: Y) w w' ∧ ∀ i ∈ Y', i ∈ Y ∨ w.heap.size ≤ i
theorem Own.keepB {base : Nat} {w w' : World} {v : Value} {l : List UInt8} (h : Own base w v l) (hb : ∀ g, v.ownBlock = some g → w'.heap[g]? = w.heap[g]?) : Own base w' v l := by
  rcases h with ⟨h1, h2 | ⟨g, cap, cur, h2, h3, h4, h5⟩⟩
  · exact ⟨h1, .inl h2⟩
  · exact ⟨h1, .inr ⟨g, cap, cur, h2, h3, (hb g (by rw [h2]; rfl)).trans h4, h5⟩⟩
set_option maxRecDepth 100000 in
set_option maxHeartbeats 4000000 in
theorem chunk_any {w0 w : World} {p : Nat} {k : PkS} {s : CodS} {had : Bool} {Y : List Nat} {AF : Option Addr} {cF mp B bD oD : Nat} (c : PkC w0 k AF cF mp B bD oD) (hb : Below w0.heap.size w0 w) (h : Pk w p k s had Y) (hp : w0.heap.size ≤ p) (hY : ∀ i ∈ Y, w0.heap.size ≤ i) (a b : Nat) (hab : a < b) (hbl : b ≤ k.D.length) :
    Calls Tryz.prog 12 #[PF p, .int .i64 (a : Nat), .int .i64 (b : Nat)] w (ChunkDone w p k Y (chunkOf k a b s had)) := by
  have HCT := Lib.hid (control_any h a)
  have HTR := Lib.hid (try_any c hb h hp hY a b hab hbl)
  obtain ⟨⟨R, s2⟩, hR⟩ : ∃ r, codeOf k a b (codOf s) = r := ⟨_, rfl⟩
  obtain ⟨x, hx⟩ : ∃ x, ctlB a had s = x := ⟨_, rfl⟩
  obtain ⟨T1, hT1⟩ : ∃ T, twoB (b - a - 1) = T := ⟨_, rfl⟩
  obtain ⟨T2, hT2⟩ : ∃ T, twoB (R.length - 1) = T := ⟨_, rfl⟩
  obtain ⟨P, hP⟩ : ∃ P, (if 192 ≤ x then [propB k] else []) = P := ⟨_, rfl⟩
  obtain ⟨O, hO⟩ : ∃ O, ((([x] ++ T1) ++ T2) ++ P) ++ R = O := ⟨_, rfl⟩
  obtain ⟨RES, hRES⟩ : ∃ RES, chunkOf k a b s had = RES := ⟨_, rfl⟩
  rw [hx] at HCT
  rw [hR] at HTR
  have hpk : packedOf k a b s had R = O := by unfold packedOf; rw [hx, hT1, hT2, hP, hO]
  have HRES : Hid (RES = if b - a + 3 ≤ O.length ∨ 65536 < R.length then (storeOf k.D a b, none, had) else (O, some s2, true)) := Lib.hid (by rw [← hRES]; unfold chunkOf; rw [hR]; show (if b - a + 3 ≤ (packedOf k a b s had R).length ∨ _ then _ else _) = _; rw [hpk])
  rw [hRES]
  have HTW1 := Lib.hid (fun W => twoBytes_any (b - a - 1) (by have := c.small; omega) W)
  have HTW2 : Hid (5 ≤ R.length → R.length + 100 ≤ 140737488355328 → ∀ W, Calls Tryz.prog 25 #[.int .i64 (R.length : Nat)] W (GivesB W T2)) := Lib.hid (fun h1 h2 W => by
    have h := twoBytes_any (R.length - 1) (by omega) W
    rw [show R.length - 1 + 1 = R.length by omega, hT2] at h
    exact h)
  rw [show ((b - a - 1 + 1 : Nat) : Int) = (b : Int) - (a : Int) by omega, hT1] at HTW1
  have HT1 : Hid (T1.length = 2) := Lib.hid (by rw [← hT1]; rfl)
  have HT2 : Hid (T2.length = 2) := Lib.hid (by rw [← hT2]; rfl)
  have HPP : Hid (P.length ≤ 1) := Lib.hid (by rw [← hP]; split <;> simp)
  have HP := Lib.hid hP
  obtain ⟨q, hq⟩ : ∃ q, decide ((192 : Int) ≤ (x.toNat : Int)) = q := ⟨_, rfl⟩
  have HQ : Hid (q = true ↔ 192 ≤ x) := Lib.hid (by
    rw [← hq, decide_eq_true_iff, UInt8.le_iff_toNat_le]
    show _ ↔ 192 ≤ x.toNat
    omega)
  have HO := Lib.hid hO
  have HC := Lib.hid c
  have HB := Lib.hid hb
  have HPY := Lib.hid (And.intro hp hY)
  have HAB := Lib.hid (And.intro hab hbl)
  have HLT := Lib.hid h.lt
  have hai : (a : Int) < (b : Int) := by omega
  have hdi : (k.D.length : Int) ≤ 100000 := by have := c.small; omega
  have hbi : (b : Int) ≤ (k.D.length : Int) := by omega
  clear c hb h hp hY hab hbl hR hx hpk hRES hT1 hT2 hP hO
  go_enter Tryz.func12, Tryz.ntmps12
  go_wp2_with fail
  refine HCT.out.mono ?_
  rintro e w1 ⟨rfl, rfl⟩
  go_wp2_with fail
  refine HTR.out.mono ?_
  rintro e w2 ⟨v2, Y2, rfl, ho2, hP2, hon2, hY2, hR5, hRm⟩
  simp only at ho2 hP2 hR5 hRm
  obtain ⟨AR, cR, rfl, _, _, hBR⟩ := ho2.read
  obtain ⟨W3, hW3⟩ : ∃ W3, w2.alloc (.cells #[B8 x] 5) = W3 := ⟨_, rfl⟩
  have ho3 : Own w2.heap.size W3 (.slice (some ⟨w2.heap.size, 0, none⟩) 1 1) [x] := by rw [← hW3]; exact Own.lit w2 [x] (Nat.le_refl _) (by simp)
  have hb3 : Below w2.heap.size w2 W3 := by rw [← hW3]; exact (Below.refl _ _).alloc (Nat.le_refl _) _
  have HBR := Lib.hid hBR
  have HP2 := Lib.hid hP2
  have HON := Lib.hid hon2
  have HY2 := Lib.hid hY2
  have HR5 := Lib.hid (And.intro hR5 hRm)
  have HW3 := Lib.hid hW3
  have HO3 := Lib.hid ho3
  have HB3 := Lib.hid hb3
  have hRi : (R.length : Int) ≤ 140737488355328 := by omega
  clear ho2 hP2 hon2 hY2 hR5 hRm hBR hW3 ho3 hb3 HCT HTR
  go_wp2_with fail
  rw [show w2.alloc (Obj.cells #[B8 x] 5) = W3 from HW3.out]
  refine (HTW1.out _).mono ?_
  rintro e w4 ⟨v4, rfl, ho4, hb4⟩
  obtain ⟨A4, c4, rfl, _, _, hB4⟩ := ho4.read
  have HB4 := Lib.hid (HB3.out.trans (hb4.mono HB3.out.size))
  have HO34 := Lib.hid (HO3.out.below hb4)
  have HBB4 := Lib.hid hB4
  clear ho4 hb4 hB4
  go_upto_region 6 with (at_builtin; refine wpList_append_bytes ?_ (.tmp 26) (.tmp 30) ?_ w2.heap.size w4 (.slice (some ⟨w2.heap.size, 0, none⟩) 1 1) [x] ?_ HO34.out A4 T1 c4 ?_ HBB4.out (by rw [HT1.out]; show 1 + 2 ≤ 140737488355328; decide) HB4.out.size ?_; rfl; rfl; rfl; rfl; intro v5 w5 ho5 hg5; have HO5 := Lib.hid ho5; have HB5 := Lib.hid (below_grown HB4.out hg5 HB4.out.size (fun g e => (HO34.out.from_base g e).1)); clear ho5 hg5)
  go_wp2_with fail
  refine (HTW2.out HR5.out.1 HR5.out.2 _).mono ?_
  rintro e w6 ⟨v6, rfl, ho6, hb6⟩
  obtain ⟨A6, c6, rfl, _, _, hB6⟩ := ho6.read
  have HB6 := Lib.hid (HB5.out.trans (hb6.mono HB5.out.size))
  have HO56 := Lib.hid (HO5.out.below hb6)
  have HBB6 := Lib.hid hB6
  clear ho6 hb6 hB6
  go_upto_region 7 with (at_builtin; refine wpList_append_bytes ?_ (.tmp 32) (.tmp 35) ?_ w2.heap.size w6 v5 ([x] ++ T1) ?_ HO56.out A6 T2 c6 ?_ HBB6.out (by rw [List.length_append, HT1.out, HT2.out]; show 1 + 2 + 2 ≤ 140737488355328; decide) HB6.out.size ?_; rfl; rfl; rfl; rfl; intro v7 w7 ho7 hg7; have HO7 := Lib.hid ho7; have HB7 := Lib.hid (below_grown HB6.out hg7 HB6.out.size (fun g e => (HO56.out.from_base g e).1)); clear ho7 hg7)
  go_upto_if 38 with fail
  go_cut [11] from 39 (fun s11 wx => Own w2.heap.size wx s11 ((([x] ++ T1) ++ T2) ++ P) ∧ Below w2.heap.size w2 wx)
  case first =>
    cases q with
    | true =>
      have hx := HQ.out.1 rfl
      have hP1 : P = [propB k] := by rw [← HP.out, if_pos hx]
      obtain ⟨cv, hPk, _⟩ := (HP2.out.below HB7.out).ex
      obtain ⟨o4, o5, o6, o7, o8, o9⟩ := hPk.opts
      have o1 := hPk.lc
      have o2 := hPk.lp
      have o3 := hPk.pb
      have HPR := Lib.hid (props_any k.lc k.lp k.pb k.nice k.chunk k.block k.check k.chain k.dict HC.out.lc HC.out.lp HC.out.pb w7)
      clear hx hPk
      go_wp2_with fail
      refine HPR.out.mono ?_
      rintro e w8 ⟨rfl, hb8⟩
      obtain ⟨y, hy⟩ : ∃ y, UInt8.ofNat (k.lc + 9 * (k.lp + 5 * k.pb)) = y := ⟨_, rfl⟩
      have hP2 : P = [y] := by rw [hP1, ← hy]; rfl
      rw [hy]
      obtain ⟨W9, hW9⟩ : ∃ W9, w8.alloc (.cells #[B8 y] 5) = W9 := ⟨_, rfl⟩
      have HW9 := Lib.hid hW9
      have HX9 : Hid (Bytes W9 (some ⟨w8.heap.size, 0, none⟩) [y]) := Lib.hid (by rw [← hW9]; exact Bytes.one w8 y)
      have hb89 : Below w7.heap.size w7 W9 := by rw [← hW9]; exact hb8.alloc hb8.size _
      have HB9 := Lib.hid (HB7.out.trans (hb89.mono HB7.out.size))
      have HO79 := Lib.hid (HO7.out.below hb89)
      have HP2' := Lib.hid hP2
      clear o1 o2 o3 o4 o5 o6 o7 o8 o9 hP1 hP2 hy hW9 hb8 hb89
      go_wp2_with (at_builtin; rw [HW9.out]; refine wpList_append_bytes ?_ (.tmp 39) (.tmp 45) ?_ w2.heap.size W9 v7 (([x] ++ T1) ++ T2) ?_ HO79.out (some ⟨w8.heap.size, 0, none⟩) [y] 1 ?_ HX9.out (by rw [List.length_append, List.length_append, HT1.out, HT2.out]; show 1 + 2 + 2 + 1 ≤ 140737488355328; decide) HB9.out.size ?_; rfl; rfl; rfl; rfl; intro v10 w10 ho10 hg10; have HO10 := Lib.hid ho10; have HB10 := Lib.hid (below_grown HB9.out hg10 HB9.out.size (fun g e => (HO79.out.from_base g e).1)); clear ho10 hg10)
      go_meet
      exact ⟨by rw [HP2'.out]; exact HO10.out, HB10.out⟩
    | false =>
      have hx : ¬ 192 ≤ x := fun h => Bool.noConfusion (HQ.out.2 h)
      have hP1 : P = [] := by rw [← HP.out, if_neg hx]
      have HP1 := Lib.hid hP1
      clear hx hP1
      go_wp2_with fail
      go_meet
      exact ⟨by rw [HP1.out, List.append_nil]; exact HO7.out, HB7.out⟩
  case rest =>
  obtain ⟨ho8, hb8⟩ := hcut
  have HO8 := Lib.hid ho8
  have HB8 := Lib.hid hb8
  clear ho8 hb8
  go_upto_region 10 with (at_builtin; refine wpList_append_bytes ?_ (.tmp 47) (.tmp 48) ?_ w2.heap.size wc u11 ((([x] ++ T1) ++ T2) ++ P) ?_ HO8.out AR R cR ?_ (HBR.out.below HB8.out) (by have := HR5.out.2; have := HPP.out; rw [List.length_append, List.length_append, List.length_append, HT1.out, HT2.out]; show 1 + 2 + 2 + P.length + R.length ≤ 140737488355328; omega) HB8.out.size ?_; rfl; rfl; rfl; rfl; intro v9 w9 ho9 hg9; rw [HO.out] at ho9; have HO9 := Lib.hid ho9; have HB9 := Lib.hid (below_grown HB8.out hg9 HB8.out.size (fun g e => (HO8.out.from_base g e).1)); clear ho9 hg9)
  obtain ⟨A9, c9, hv9, _, hc9, _⟩ := HO9.out.read
  have hPk9 := HP2.out.below HB9.out
  have hp2 : p < w2.heap.size := Nat.lt_of_lt_of_le HLT.out HON.out.size
  have hbw9 : Below w0.heap.size w0 w9 := by
    have h2 : Below w0.heap.size w0 w2 := HB.out.trans (HON.out.below HB.out.size (fun i hi => by
      rcases List.mem_cons.1 hi with rfl | hi
      · exact HPY.out.1
      · exact HPY.out.2 i hi))
    exact h2.trans (HB9.out.mono h2.size)
  have HSTO := Lib.hid (store_any hPk9 HC.out.addr (HC.out.bytes.below hbw9) (by have := HC.out.blk; have := HPY.out.1; omega) HC.out.cap HC.out.small a b HAB.out.1 HAB.out.2)
  have hOi : (O.length : Int) ≤ 9223372036854775807 := by
    have h := HR5.out.2
    have h2 := HPP.out
    rw [← HO.out, List.length_append, List.length_append, List.length_append, List.length_append, HT1.out, HT2.out]
    show ((1 + 2 + 2 + P.length + R.length : Nat) : Int) ≤ _
    omega
  by_cases h1 : b - a + 3 ≤ O.length
  · have HST : Hid (b - a + 3 ≤ O.length ∨ 65536 < R.length) := Lib.hid (.inl h1)
    have h1i : (b : Int) - (a : Int) + 3 ≤ (O.length : Int) := by omega
    subst hv9
    clear h1 hPk9 hp2 hbw9 hc9
    · skip
      go_wp2_with fail
      refine HSTO.out.mono ?_
      rintro e w10 ⟨v10, rfl, ho10, hP10, hon10⟩
      have HO10 := Lib.hid ho10
      have HP10 := Lib.hid hP10
      have HON10 := Lib.hid hon10
      clear ho10 hP10 hon10
      go_wp2_with fail
      go_ret2
      have hres : RES = (storeOf k.D a b, none, had) := by rw [HRES.out]; exact if_pos HST.out
      rw [hres]
      refine ⟨v10, [], rfl, HO10.out.weaken (Nat.le_trans HON.out.size HB9.out.size), HP10.out, ?_, fun i hi => by cases hi⟩
      exact (HON.out.trans (Only.of_below HB9.out) (fun i hi => .inl hi)).trans HON10.out (fun i hi => .inl (by simp only [List.mem_cons, List.not_mem_nil, or_false] at hi; simp [hi]))
  · have h1i : ¬ (b : Int) - (a : Int) + 3 ≤ (O.length : Int) := by omega
    by_cases h2 : 65536 < R.length
    · have HST : Hid (b - a + 3 ≤ O.length ∨ 65536 < R.length) := Lib.hid (.inr h2)
      have h2i : (65536 : Int) < (R.length : Int) := by omega
      subst hv9
      clear h1 h2 hPk9 hp2 hbw9 hc9
      go_wp2_with fail
      refine HSTO.out.mono ?_
      rintro e w10 ⟨v10, rfl, ho10, hP10, hon10⟩
      have HO10 := Lib.hid ho10
      have HP10 := Lib.hid hP10
      have HON10 := Lib.hid hon10
      clear ho10 hP10 hon10
      go_wp2_with fail
      go_ret2
      have hres : RES = (storeOf k.D a b, none, had) := by rw [HRES.out]; exact if_pos HST.out
      rw [hres]
      refine ⟨v10, [], rfl, HO10.out.weaken (Nat.le_trans HON.out.size HB9.out.size), HP10.out, ?_, fun i hi => by cases hi⟩
      exact (HON.out.trans (Only.of_below HB9.out) (fun i hi => .inl hi)).trans HON10.out (fun i hi => .inl (by simp only [List.mem_cons, List.not_mem_nil, or_false] at hi; simp [hi]))
    · have HST : Hid (¬ (b - a + 3 ≤ O.length ∨ 65536 < R.length)) := Lib.hid (fun h => h.elim h1 h2)
      have h2i : ¬ (65536 : Int) < (R.length : Int) := by omega
      obtain ⟨cv, hPw, hCw⟩ := hPk9.ex
      have c12 := hPw.had_
      have f12 := hPw.frozen 12
      have HPW := Lib.hid hPw
      have HCW := Lib.hid hCw
      have HPL := Lib.hid hp2
      have HV9 := Lib.hid hv9
      subst hv9
      clear h1 h2 hPk9 hp2 hbw9 hc9 hPw hCw
      go_wp2_with fail
      go_ret2
      have hres : RES = (O, some s2, true) := by rw [HRES.out]; exact if_neg HST.out
      rw [hres]
      have hpO := (show Pk w9 p k (some s2) had Y2 from ⟨cv, HPW.out, HCW.out⟩).own HO9.out
      refine ⟨_, Y2, rfl, ((HO9.out.keepB (fun g hg => heap_setCell_other _ _ _ _ (by show g ≠ p; intro e; subst e; exact hpO _ hg (by simp)))).weaken HON.out.size), ⟨cv, HPW.out.setHad true, ?_⟩, ?_, HY2.out⟩
      · refine HCW.out.keep fun i hi => heap_setCell_other _ _ _ _ ?_
        show i ≠ p
        intro e; subst e
        exact HCW.out.apart HPW.out (by decide) (by decide) hi
      · exact (HON.out.trans (Only.of_below HB9.out) (fun i hi => .inl hi)).setCell (.inl (by simp)) _
end Go.Proofs.YtklkboplkobhgaaGreat
