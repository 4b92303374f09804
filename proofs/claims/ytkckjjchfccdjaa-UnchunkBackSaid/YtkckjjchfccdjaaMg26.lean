/- Several texts in one: UcChain, ChkChunk. -/
import Derived.Test.YtkckjjchfccdjaaMg15
import Derived.Test.YtkckjjchfccdjaaMg17
import Derived.Test.YtkckjjchfccdjaaChkTry
/- A part that was coded is read back. -/
namespace Go.Proofs.Ytkckjjchfccdjaa
set_option maxRecDepth 100000
open Go.RowKit

theorem Chain.cons {g lc lp pb : Nat} {ss : List Sy} {M : Nat → MSt} {s : Sy} {a : MSt} (h : Chain g lc lp pb ss M) (hl : Link g lc lp pb a s (M 0)) : Chain g lc lp pb (s :: ss) (fun t => match t with | 0 => a | t + 1 => M t) := by
  intro t ht
  cases t with
  | zero => exact hl
  | succ t => exact h t (by simpa using ht)
theorem val_inj {s t : Sy} (h : s.val = t.val) : s = t := by
  obtain ⟨k, b, l, d, r⟩ := s
  obtain ⟨k', b', l', d', r'⟩ := t
  simp [Sy.val] at h
  obtain ⟨h1, h2, h3, h4, h5⟩ := h
  have hb : b = b' := UInt8.toNat_inj.1 (by omega)
  have e1 : k = k' := by omega
  have e3 : l = l' := by omega
  have e4 : d = d' := by omega
  have e5 : r = r' := by omega
  rw [hb, e1, e3, e4, e5]
theorem good_reps {r : R4} {n k l d q : Int} (h : rGood r) (hf : fitsZ r n k l d q = true) : rGood (repsAfter r k d q) := by
  obtain ⟨⟨a1, a2, a3, a4⟩, b1, b2, b3, b4⟩ := h
  rcases fitsZ_cases hf with rfl | ⟨rfl, _, _, h1, _, h2⟩ | ⟨rfl, h0, h3, _⟩
  · exact ⟨⟨a1, a2, a3, a4⟩, b1, b2, b3, b4⟩
  · exact ⟨⟨h1, a1, a2, a3⟩, by show d ≤ 4294967296; omega, b1, b2, b3⟩
  · rcases (by omega : q = 0 ∨ q = 1 ∨ q = 2 ∨ q = 3) with rfl | rfl | rfl | rfl
    · exact ⟨⟨a1, a2, a3, a4⟩, b1, b2, b3, b4⟩
    · exact ⟨⟨a2, a1, a3, a4⟩, b2, b1, b3, b4⟩
    · exact ⟨⟨a3, a1, a2, a4⟩, b3, b1, b2, b4⟩
    · exact ⟨⟨a4, a1, a2, a3⟩, b4, b1, b2, b3⟩
/-- The symbols of a part, one behind the other. -/
theorem chain_syms {lc lp pb : Nat} {D : List UInt8} {dict nice : Int} {b : Nat} (hb : b ≤ D.length) (hD : D.length ≤ 100000) (hdict : 1 ≤ dict) (hn : nice ≤ 273) : ∀ (f p st : Nat) (r : R4) (x : EncS) (c : Nat), p ≤ b → b - p ≤ f → st < 12 → rGood r → Fair x.1 → (encIo 0).ok x.2 (54 * (b - p) + c) →
    ∃ M : Nat → MSt, Chain 0 lc lp pb (symsOf D dict nice b f p r).1 M ∧ M 0 = ⟨D.take p, st, r, x⟩ ∧
      (∀ i (hi : i < (symsOf D dict nice b f p r).1.length), (symsOf D dict nice b f p r).1[i].k ≠ 0 → distZ (M i).r ((symsOf D dict nice b f p r).1[i].k : Nat) ((symsOf D dict nice b f p r).1[i].d : Nat) ((symsOf D dict nice b f p r).1[i].r : Nat) ≤ dict) ∧
      ∃ st' r' x', putAll lc lp pb D (symsOf D dict nice b f p r).1 p (st, r, x) = (st', r', x') ∧ M (symsOf D dict nice b f p r).1.length = ⟨D.take b, st', r', x'⟩ ∧ st' < 12 ∧ rGood r' ∧ Fair x'.1 ∧ (encIo 0).ok x'.2 c
  | 0, p, st, r, x, c, hp, hf, h12, hr, hfa, hok => by
    have e : p = b := by omega
    subst e
    refine ⟨fun _ => ⟨D.take p, st, r, x⟩, fun t ht => absurd ht (Nat.not_lt_zero _), rfl, fun i hi => absurd hi (Nat.not_lt_zero _), st, r, x, rfl, rfl, h12, hr, hfa, (encIo 0).le hok (by omega)⟩
  | f + 1, p, st, r, x, c, hp, hf, h12, hr, hfa, hok => by
    by_cases hpb : p < b
    · obtain ⟨S, hS⟩ : ∃ S, nextS D dict nice b p r = S := ⟨_, rfl⟩
      have hst := next_stands_to (D := D) (dict := dict) (nice := nice) (r := r) hpb hb hD hdict hn
      have hto := next_to (D := D) (dict := dict) (nice := nice) (r := r) hpb
      have hss : (symsOf D dict nice b (f + 1) p r).1 = S :: (symsOf D dict nice b f (p + max S.l 1) (afterS S r)).1 := by
        conv => lhs; unfold symsOf
        rw [if_pos hpb, hS]
      rw [hS] at hst hto
      have hTl : (D.take p).length = p := by rw [List.length_take]; omega
      have hfit : fitsZ r ((D.take p).length : Int) (S.k : Nat) (S.l : Nat) (S.d : Nat) (S.r : Nat) = true := by rw [hTl]; exact hst.fits
      obtain ⟨s', st', r', z, hsym, hr', hst', hval, hlink⟩ := fits_link (g := 0) (lc := lc) (lp := lp) (pb := pb) (a := ⟨D.take p, st, r, x⟩) (k := (S.k : Nat)) (b := S.b) (l := (S.l : Nat)) (d := (S.d : Nat)) (q := (S.r : Nat)) hr hfit
      have hs' : s' = S := val_inj (hval.trans hst.plain)
      subst hs'
      have hk54 : (encIo 0).ok x.2 (54 * (b - (p + max s'.l 1)) + c + 54) := (encIo 0).le hok (by omega)
      obtain ⟨hfz, hoz⟩ := sym_okf hfa hk54 hsym
      have hrz : r' = afterS s' r := hr'.trans (repsAfter_after s' hst.k r)
      have hgr : rGood r' := by rw [hr']; exact good_reps hr hfit
      obtain ⟨M, hM, hM0, hMd, st2, r2, x2, hp2, hML, q12, qr, qf, qo⟩ := chain_syms hb hD hdict hn f (p + max s'.l 1) st' r' z c hto (by omega) (stateAfter_lt h12 hst') hgr hfz hoz
      rw [hrz] at hM hMd hML hp2 hM0
      obtain ⟨bk, hbk, _, hgrow⟩ := hst.back
      have hl := hlink bk hbk hoz.1
      have hl2 : Link 0 lc lp pb ⟨D.take p, st, r, x⟩ s' (M 0) := by
        rw [hM0, ← hrz]
        have e : growS (D.take p) (s'.k : Nat) s'.b ((s'.l : Nat) : Int).toNat bk = D.take (p + max s'.l 1) := by rw [Int.toNat_natCast]; exact hgrow
        rw [← e]
        exact hl
      refine ⟨fun t => match t with | 0 => ⟨D.take p, st, r, x⟩ | t + 1 => M t, ?_, rfl, ?_, st2, r2, x2, ?_, ?_, q12, qr, qf, qo⟩
      · rw [hss]; exact hM.cons hl2
      · rw [hss]
        intro i hi
        cases i with
        | zero => intro _; exact hst.near
        | succ i => exact hMd i (by simpa using hi)
      · rw [hss, ← hp2, ← hrz]
        exact putAll_step hsym
      · rw [hss]; exact hML
    · have e : p = b := by omega
      subst e
      have hss : symsOf D dict nice p (f + 1) p r = ([], r) := by unfold symsOf; rw [if_neg hpb]
      rw [hss]
      refine ⟨fun _ => ⟨D.take p, st, r, x⟩, fun t ht => absurd ht (Nat.not_lt_zero _), rfl, fun i hi => absurd hi (Nat.not_lt_zero _), st, r, x, rfl, rfl, h12, hr, hfa, (encIo 0).le hok (by omega)⟩
/-- A coder between two parts, as it should be. -/
structure CodOk (s : Nat × R4 × (Nat → Nat)) : Prop where
  st : s.1 < 12
  r : rGood s.2.1
  fair : Fair s.2.2
theorem code_back {k : PkS} {a b : Nat} {s : Nat × R4 × (Nat → Nat)} {dict : Int} (hab : a < b) (hb : b ≤ k.D.length) (hD : k.D.length ≤ 100000) (hk : 1 ≤ k.dict) (hn : k.nice ≤ 273) (hd : (k.dict : Int) ≤ dict) (hs : CodOk s) :
    5 ≤ (codeOf k a b s).1.length ∧ (codeOf k a b s).1.getD 0 0 = 0 ∧ CodOk (codeOf k a b s).2 ∧ ∃ y : PD, y.1 = (codeOf k a b s).2.2.2 ∧ y.2.done (codeOf k a b s).1 = true ∧
      uread 0 0 0 (codeOf k a b s).1 k.lc k.lp k.pb dict ((k.D.take a).length + (b - a)) (b - a) (k.D.take a) s.1 s.2.1 (s.2.2, Rd.start (codeOf k a b s).1) = some (k.D.take b, (codeOf k a b s).2.1, (codeOf k a b s).2.2.1, y) := by
  have h0 : (encIo 0).ok st0 (54 * (b - a) + 0) := ⟨st0_ok, by show 1 + 0 + 2 * (54 * (b - a) + 0) ≤ _; omega⟩
  obtain ⟨M, hC, hM0, hMd, st', r', x', hput, hML, q12, qr, qf, qo⟩ := chain_syms (lc := k.lc) (lp := k.lp) (pb := k.pb) (D := k.D) (dict := (k.dict : Nat)) (nice := k.nice) (b := b) hb hD (by omega) hn (b - a) a s.1 s.2.1 (s.2.2, st0) 0 (by omega) (Nat.le_refl _) hs.st hs.r hs.fair h0
  obtain ⟨ss, hss⟩ : ∃ ss, (symsOf k.D (k.dict : Nat) k.nice b (b - a) a s.2.1).1 = ss := ⟨_, rfl⟩
  have hcode : codeOf k a b s = (Rc.be (5 + x'.2.k) x'.2.v, (st', r', x'.1)) := by
    unfold codeOf partSyms
    rw [hput]
  rw [hss] at hC hMd hML
  rw [hcode]
  obtain ⟨L, hL⟩ : ∃ L, Rc.be (5 + x'.2.k) x'.2.v = L := ⟨_, rfl⟩
  have hLl : 5 ≤ L.length := by rw [← hL, Rc.be_length]; omega
  have hLx : L = Rc.be (5 + (M ss.length).x.2.k) (M ss.length).x.2.v := by rw [hML]; exact hL.symm
  have hokx : (M ss.length).x.2.ok := by rw [hML]; exact qo.1
  have hA : Agree x'.2 L := by rw [← hL]; exact be_agree _
  have hs0 : Sim (M ss.length).x.2 L (M 0).x (s.2.2, Rd.start L) := by
    rw [hML, hM0]
    exact ⟨rfl, follow_start hA qo.1 hLl⟩
  have hf0 : Fair (M 0).x.1 := by rw [hM0]; exact hs.fair
  have hlast : (M ss.length).H = k.D.take b := by rw [hML]
  have hpos0 := hC.longer ss.length 0 (by omega)
  rw [Nat.zero_add] at hpos0
  have hlong := hC.mono (Nat.zero_le _) (Nat.le_refl _)
  have h0l : (M 0).H.length = a := by rw [hM0]; show (k.D.take a).length = a; rw [List.length_take]; omega
  have hbl : (M ss.length).H.length = b := by rw [hlast, List.length_take]; omega
  obtain ⟨y', hsim, hu⟩ := hC.reads (gd := 0) (o := 0) (cap := 0) (dict := dict) (fin := b) hf0 hokx hLx hs0 ss.length (Nat.le_refl _) (fun i hi => ⟨by have := hC.mono (show i + 1 ≤ ss.length from hi) (Nat.le_refl _); omega, fun hki => Int.le_trans (hMd i hi hki) hd⟩)
  refine ⟨by rw [hL]; exact hLl, by rw [hL]; show L.getD 0 0 = 0; exact agree_zero hA qo.1 (by omega), ⟨q12, qr, qf⟩, y', ?_, ?_, ?_⟩
  · have := hsim.1
    rw [hML] at this
    exact this
  · rw [hL]
    rw [hML] at hsim
    exact sim_done (S := x'.2) (P := x'.1) hL.symm hsim
  · have hu2 := hu (b - a - ss.length)
    rw [show b - a - ss.length + ss.length = b - a by omega, uread_end (T := (M ss.length).H) (by omega), hM0, hML] at hu2
    rw [hL, show (k.D.take a).length + (b - a) = b by rw [List.length_take]; omega]
    exact hu2
end Go.Proofs.Ytkckjjchfccdjaa

/- Chunks: the chunk of a part. -/
namespace Go.Proofs.Ytkckjjchfccdjaa
set_option maxRecDepth 100000
open Go.RowKit

def propB (k : PkS) : UInt8 := UInt8.ofNat (k.lc + 9 * (k.lp + 5 * k.pb))
/-- A part as it is coded, with its head. -/
def packedOf (k : PkS) (a b : Nat) (s : CodS) (had : Bool) (r : List UInt8) : List UInt8 :=
  (([ctlB a had s] ++ twoB (b - a - 1)) ++ twoB (r.length - 1)) ++ (if 192 ≤ ctlB a had s then [propB k] else []) ++ r
/-- A part's chunk, and the coder then. -/
def chunkOf (k : PkS) (a b : Nat) (s : CodS) (had : Bool) : List UInt8 × CodS × Bool :=
  let r := codeOf k a b (codOf s)
  if b - a + 3 ≤ (packedOf k a b s had r.1).length ∨ 65536 < r.1.length then (storeOf k.D a b, none, had) else (packedOf k a b s had r.1, some r.2, true)
def ChunkDone (w : World) (p : Nat) (k : PkS) (Y : List Nat) (r : List UInt8 × CodS × Bool) (e : Ending) (w' : World) : Prop :=
  ∃ v Y', e = .returned (.tuple #[v, .int .i64 0]) ∧ Own w.heap.size w' v r.1 ∧ Pk w' p k r.2.1 r.2.2 Y' ∧ Only (p :: Y) w w' ∧ ∀ i ∈ Y', i ∈ Y ∨ w.heap.size ≤ i
theorem Own.keepC {base : Nat} {w w' : World} {v : Value} {l : List UInt8} (h : Own base w v l) (hb : ∀ g, v.ownBlock = some g → w'.heap[g]? = w.heap[g]?) : Own base w' v l := by
  rcases h with ⟨h1, h2 | ⟨g, cap, cur, h2, h3, h4, h5⟩⟩
  · exact ⟨h1, .inl h2⟩
  · exact ⟨h1, .inr ⟨g, cap, cur, h2, h3, (hb g (by rw [h2]; rfl)).trans h4, h5⟩⟩
set_option maxRecDepth 100000 in
set_option maxHeartbeats 4000000 in
theorem chunk_any {w0 w : World} {p : Nat} {k : PkS} {s : CodS} {had : Bool} {Y : List Nat} {AF : Option Addr} {cF mp B bD oD : Nat} (c : PkC w0 k AF cF mp B bD oD) (hb : Below w0.heap.size w0 w) (h : Pk w p k s had Y) (hp : w0.heap.size ≤ p) (hY : ∀ i ∈ Y, w0.heap.size ≤ i) (a b : Nat) (hab : a < b) (hbl : b ≤ k.D.length) :
    Calls Try.prog 19 #[PF p, .int .i64 (a : Nat), .int .i64 (b : Nat)] w (ChunkDone w p k Y (chunkOf k a b s had)) := by
  have HCT := Lib.hid (control_any h a)
  have HTR := Lib.hid (try_any c hb h hp hY a b hab hbl)
  obtain ⟨⟨R, s2⟩, hR⟩ : ∃ r, codeOf k a b (codOf s) = r := ⟨_, rfl⟩
  obtain ⟨x, hx⟩ : ∃ x, ctlB a had s = x := ⟨_, rfl⟩
  obtain ⟨T1, hT1⟩ : ∃ T, twoB (b - a - 1) = T := ⟨_, rfl⟩
  obtain ⟨T2, hT2⟩ : ∃ T, twoB (R.length - 1) = T := ⟨_, rfl⟩
  obtain ⟨P, hP⟩ : ∃ P, (if 192 ≤ x then [propB k] else []) = P := ⟨_, rfl⟩
  obtain ⟨O, hO⟩ : ∃ O, ((([x] ++ T1) ++ T2) ++ P) ++ R = O := ⟨_, rfl⟩
  obtain ⟨RES, hRES⟩ : ∃ RES, chunkOf k a b s had = RES := ⟨_, rfl⟩
  rw [hx] at HCT
  rw [hR] at HTR
  have hpk : packedOf k a b s had R = O := by unfold packedOf; rw [hx, hT1, hT2, hP, hO]
  have HRES : Hid (RES = if b - a + 3 ≤ O.length ∨ 65536 < R.length then (storeOf k.D a b, none, had) else (O, some s2, true)) := Lib.hid (by rw [← hRES]; unfold chunkOf; rw [hR]; show (if b - a + 3 ≤ (packedOf k a b s had R).length ∨ _ then _ else _) = _; rw [hpk])
  rw [hRES]
  have HTW1 := Lib.hid (fun W => twoBytes_any (b - a - 1) (by have := c.small; omega) W)
  have HTW2 : Hid (5 ≤ R.length → R.length + 100 ≤ 140737488355328 → ∀ W, Calls Try.prog 35 #[.int .i64 (R.length : Nat)] W (GivesB W T2)) := Lib.hid (fun h1 h2 W => by
    have h := twoBytes_any (R.length - 1) (by omega) W
    rw [show R.length - 1 + 1 = R.length by omega, hT2] at h
    exact h)
  rw [show ((b - a - 1 + 1 : Nat) : Int) = (b : Int) - (a : Int) by omega, hT1] at HTW1
  have HT1 : Hid (T1.length = 2) := Lib.hid (by rw [← hT1]; rfl)
  have HT2 : Hid (T2.length = 2) := Lib.hid (by rw [← hT2]; rfl)
  have HPP : Hid (P.length ≤ 1) := Lib.hid (by rw [← hP]; split <;> simp)
  have HP := Lib.hid hP
  obtain ⟨q, hq⟩ : ∃ q, decide ((192 : Int) ≤ (x.toNat : Int)) = q := ⟨_, rfl⟩
  have HQ : Hid (q = true ↔ 192 ≤ x) := Lib.hid (by
    rw [← hq, decide_eq_true_iff, UInt8.le_iff_toNat_le]
    show _ ↔ 192 ≤ x.toNat
    omega)
  have HO := Lib.hid hO
  have HC := Lib.hid c
  have HB := Lib.hid hb
  have HPY := Lib.hid (And.intro hp hY)
  have HAB := Lib.hid (And.intro hab hbl)
  have HLT := Lib.hid h.lt
  have hai : (a : Int) < (b : Int) := by omega
  have hdi : (k.D.length : Int) ≤ 100000 := by have := c.small; omega
  have hbi : (b : Int) ≤ (k.D.length : Int) := by omega
  clear c hb h hp hY hab hbl hR hx hpk hRES hT1 hT2 hP hO
  go_enter Try.func19, Try.ntmps19
  go_wp2_with fail
  refine HCT.out.mono ?_
  rintro e w1 ⟨rfl, rfl⟩
  go_wp2_with fail
  refine HTR.out.mono ?_
  rintro e w2 ⟨v2, Y2, rfl, ho2, hP2, hon2, hY2, hR5, hRm⟩
  simp only at ho2 hP2 hR5 hRm
  obtain ⟨AR, cR, rfl, _, _, hBR⟩ := ho2.read
  obtain ⟨W3, hW3⟩ : ∃ W3, w2.alloc (.cells #[B8 x] 5) = W3 := ⟨_, rfl⟩
  have ho3 : Own w2.heap.size W3 (.slice (some ⟨w2.heap.size, 0, none⟩) 1 1) [x] := by rw [← hW3]; exact Own.lit w2 [x] (Nat.le_refl _) (by simp)
  have hb3 : Below w2.heap.size w2 W3 := by rw [← hW3]; exact (Below.refl _ _).alloc (Nat.le_refl _) _
  have HBR := Lib.hid hBR
  have HP2 := Lib.hid hP2
  have HON := Lib.hid hon2
  have HY2 := Lib.hid hY2
  have HR5 := Lib.hid (And.intro hR5 hRm)
  have HW3 := Lib.hid hW3
  have HO3 := Lib.hid ho3
  have HB3 := Lib.hid hb3
  have hRi : (R.length : Int) ≤ 140737488355328 := by omega
  clear ho2 hP2 hon2 hY2 hR5 hRm hBR hW3 ho3 hb3 HCT HTR
  go_wp2_with fail
  rw [show w2.alloc (Obj.cells #[B8 x] 5) = W3 from HW3.out]
  refine (HTW1.out _).mono ?_
  rintro e w4 ⟨v4, rfl, ho4, hb4⟩
  obtain ⟨A4, c4, rfl, _, _, hB4⟩ := ho4.read
  have HB4 := Lib.hid (HB3.out.trans (hb4.mono HB3.out.size))
  have HO34 := Lib.hid (HO3.out.below hb4)
  have HBB4 := Lib.hid hB4
  clear ho4 hb4 hB4
  go_upto_region 6 with (at_builtin; refine wpList_append_bytes ?_ (.tmp 26) (.tmp 30) ?_ w2.heap.size w4 (.slice (some ⟨w2.heap.size, 0, none⟩) 1 1) [x] ?_ HO34.out A4 T1 c4 ?_ HBB4.out (by rw [HT1.out]; show 1 + 2 ≤ 140737488355328; decide) HB4.out.size ?_; rfl; rfl; rfl; rfl; intro v5 w5 ho5 hg5; have HO5 := Lib.hid ho5; have HB5 := Lib.hid (below_grown HB4.out hg5 HB4.out.size (fun g e => (HO34.out.from_base g e).1)); clear ho5 hg5)
  go_wp2_with fail
  refine (HTW2.out HR5.out.1 HR5.out.2 _).mono ?_
  rintro e w6 ⟨v6, rfl, ho6, hb6⟩
  obtain ⟨A6, c6, rfl, _, _, hB6⟩ := ho6.read
  have HB6 := Lib.hid (HB5.out.trans (hb6.mono HB5.out.size))
  have HO56 := Lib.hid (HO5.out.below hb6)
  have HBB6 := Lib.hid hB6
  clear ho6 hb6 hB6
  go_upto_region 7 with (at_builtin; refine wpList_append_bytes ?_ (.tmp 32) (.tmp 35) ?_ w2.heap.size w6 v5 ([x] ++ T1) ?_ HO56.out A6 T2 c6 ?_ HBB6.out (by rw [List.length_append, HT1.out, HT2.out]; show 1 + 2 + 2 ≤ 140737488355328; decide) HB6.out.size ?_; rfl; rfl; rfl; rfl; intro v7 w7 ho7 hg7; have HO7 := Lib.hid ho7; have HB7 := Lib.hid (below_grown HB6.out hg7 HB6.out.size (fun g e => (HO56.out.from_base g e).1)); clear ho7 hg7)
  go_upto_if 38 with fail
  go_cut [11] from 39 (fun s11 wx => Own w2.heap.size wx s11 ((([x] ++ T1) ++ T2) ++ P) ∧ Below w2.heap.size w2 wx)
  case first =>
    cases q with
    | true =>
      have hx := HQ.out.1 rfl
      have hP1 : P = [propB k] := by rw [← HP.out, if_pos hx]
      obtain ⟨cv, hPk, _⟩ := (HP2.out.below HB7.out).ex
      obtain ⟨o4, o5, o6, o7, o8, o9⟩ := hPk.opts
      have o1 := hPk.lc
      have o2 := hPk.lp
      have o3 := hPk.pb
      have HPR := Lib.hid (props_any k.lc k.lp k.pb k.nice k.chunk k.block k.check k.chain k.dict HC.out.lc HC.out.lp HC.out.pb w7)
      clear hx hPk
      go_wp2_with fail
      refine HPR.out.mono ?_
      rintro e w8 ⟨rfl, hb8⟩
      obtain ⟨y, hy⟩ : ∃ y, UInt8.ofNat (k.lc + 9 * (k.lp + 5 * k.pb)) = y := ⟨_, rfl⟩
      have hP2 : P = [y] := by rw [hP1, ← hy]; rfl
      rw [hy]
      obtain ⟨W9, hW9⟩ : ∃ W9, w8.alloc (.cells #[B8 y] 5) = W9 := ⟨_, rfl⟩
      have HW9 := Lib.hid hW9
      have HX9 : Hid (Bytes W9 (some ⟨w8.heap.size, 0, none⟩) [y]) := Lib.hid (by rw [← hW9]; exact Bytes.one w8 y)
      have hb89 : Below w7.heap.size w7 W9 := by rw [← hW9]; exact hb8.alloc hb8.size _
      have HB9 := Lib.hid (HB7.out.trans (hb89.mono HB7.out.size))
      have HO79 := Lib.hid (HO7.out.below hb89)
      have HP2' := Lib.hid hP2
      clear o1 o2 o3 o4 o5 o6 o7 o8 o9 hP1 hP2 hy hW9 hb8 hb89
      go_wp2_with (at_builtin; rw [HW9.out]; refine wpList_append_bytes ?_ (.tmp 39) (.tmp 45) ?_ w2.heap.size W9 v7 (([x] ++ T1) ++ T2) ?_ HO79.out (some ⟨w8.heap.size, 0, none⟩) [y] 1 ?_ HX9.out (by rw [List.length_append, List.length_append, HT1.out, HT2.out]; show 1 + 2 + 2 + 1 ≤ 140737488355328; decide) HB9.out.size ?_; rfl; rfl; rfl; rfl; intro v10 w10 ho10 hg10; have HO10 := Lib.hid ho10; have HB10 := Lib.hid (below_grown HB9.out hg10 HB9.out.size (fun g e => (HO79.out.from_base g e).1)); clear ho10 hg10)
      go_meet
      exact ⟨by rw [HP2'.out]; exact HO10.out, HB10.out⟩
    | false =>
      have hx : ¬ 192 ≤ x := fun h => Bool.noConfusion (HQ.out.2 h)
      have hP1 : P = [] := by rw [← HP.out, if_neg hx]
      have HP1 := Lib.hid hP1
      clear hx hP1
      go_wp2_with fail
      go_meet
      exact ⟨by rw [HP1.out, List.append_nil]; exact HO7.out, HB7.out⟩
  case rest =>
  obtain ⟨ho8, hb8⟩ := hcut
  have HO8 := Lib.hid ho8
  have HB8 := Lib.hid hb8
  clear ho8 hb8
  go_upto_region 10 with (at_builtin; refine wpList_append_bytes ?_ (.tmp 47) (.tmp 48) ?_ w2.heap.size wc u11 ((([x] ++ T1) ++ T2) ++ P) ?_ HO8.out AR R cR ?_ (HBR.out.below HB8.out) (by have := HR5.out.2; have := HPP.out; rw [List.length_append, List.length_append, List.length_append, HT1.out, HT2.out]; show 1 + 2 + 2 + P.length + R.length ≤ 140737488355328; omega) HB8.out.size ?_; rfl; rfl; rfl; rfl; intro v9 w9 ho9 hg9; rw [HO.out] at ho9; have HO9 := Lib.hid ho9; have HB9 := Lib.hid (below_grown HB8.out hg9 HB8.out.size (fun g e => (HO8.out.from_base g e).1)); clear ho9 hg9)
  obtain ⟨A9, c9, hv9, _, hc9, _⟩ := HO9.out.read
  have hPk9 := HP2.out.below HB9.out
  have hp2 : p < w2.heap.size := Nat.lt_of_lt_of_le HLT.out HON.out.size
  have hbw9 : Below w0.heap.size w0 w9 := by
    have h2 : Below w0.heap.size w0 w2 := HB.out.trans (HON.out.below HB.out.size (fun i hi => by
      rcases List.mem_cons.1 hi with rfl | hi
      · exact HPY.out.1
      · exact HPY.out.2 i hi))
    exact h2.trans (HB9.out.mono h2.size)
  have HSTO := Lib.hid (store_any hPk9 HC.out.addr (HC.out.bytes.below hbw9) (by have := HC.out.blk; have := HPY.out.1; omega) HC.out.cap HC.out.small a b HAB.out.1 HAB.out.2)
  have hOi : (O.length : Int) ≤ 9223372036854775807 := by
    have h := HR5.out.2
    have h2 := HPP.out
    rw [← HO.out, List.length_append, List.length_append, List.length_append, List.length_append, HT1.out, HT2.out]
    show ((1 + 2 + 2 + P.length + R.length : Nat) : Int) ≤ _
    omega
  by_cases h1 : b - a + 3 ≤ O.length
  · have HST : Hid (b - a + 3 ≤ O.length ∨ 65536 < R.length) := Lib.hid (.inl h1)
    have h1i : (b : Int) - (a : Int) + 3 ≤ (O.length : Int) := by omega
    subst hv9
    clear h1 hPk9 hp2 hbw9 hc9
    · skip
      go_wp2_with fail
      refine HSTO.out.mono ?_
      rintro e w10 ⟨v10, rfl, ho10, hP10, hon10⟩
      have HO10 := Lib.hid ho10
      have HP10 := Lib.hid hP10
      have HON10 := Lib.hid hon10
      clear ho10 hP10 hon10
      go_wp2_with fail
      go_ret2
      have hres : RES = (storeOf k.D a b, none, had) := by rw [HRES.out]; exact if_pos HST.out
      rw [hres]
      refine ⟨v10, [], rfl, HO10.out.weaken (Nat.le_trans HON.out.size HB9.out.size), HP10.out, ?_, fun i hi => by cases hi⟩
      exact (HON.out.trans (Only.of_below HB9.out) (fun i hi => .inl hi)).trans HON10.out (fun i hi => .inl (by simp only [List.mem_cons, List.not_mem_nil, or_false] at hi; simp [hi]))
  · have h1i : ¬ (b : Int) - (a : Int) + 3 ≤ (O.length : Int) := by omega
    by_cases h2 : 65536 < R.length
    · have HST : Hid (b - a + 3 ≤ O.length ∨ 65536 < R.length) := Lib.hid (.inr h2)
      have h2i : (65536 : Int) < (R.length : Int) := by omega
      subst hv9
      clear h1 h2 hPk9 hp2 hbw9 hc9
      go_wp2_with fail
      refine HSTO.out.mono ?_
      rintro e w10 ⟨v10, rfl, ho10, hP10, hon10⟩
      have HO10 := Lib.hid ho10
      have HP10 := Lib.hid hP10
      have HON10 := Lib.hid hon10
      clear ho10 hP10 hon10
      go_wp2_with fail
      go_ret2
      have hres : RES = (storeOf k.D a b, none, had) := by rw [HRES.out]; exact if_pos HST.out
      rw [hres]
      refine ⟨v10, [], rfl, HO10.out.weaken (Nat.le_trans HON.out.size HB9.out.size), HP10.out, ?_, fun i hi => by cases hi⟩
      exact (HON.out.trans (Only.of_below HB9.out) (fun i hi => .inl hi)).trans HON10.out (fun i hi => .inl (by simp only [List.mem_cons, List.not_mem_nil, or_false] at hi; simp [hi]))
    · have HST : Hid (¬ (b - a + 3 ≤ O.length ∨ 65536 < R.length)) := Lib.hid (fun h => h.elim h1 h2)
      have h2i : ¬ (65536 : Int) < (R.length : Int) := by omega
      obtain ⟨cv, hPw, hCw⟩ := hPk9.ex
      have c12 := hPw.had_
      have f12 := hPw.frozen 12
      have HPW := Lib.hid hPw
      have HCW := Lib.hid hCw
      have HPL := Lib.hid hp2
      have HV9 := Lib.hid hv9
      subst hv9
      clear h1 h2 hPk9 hp2 hbw9 hc9 hPw hCw
      go_wp2_with fail
      go_ret2
      have hres : RES = (O, some s2, true) := by rw [HRES.out]; exact if_neg HST.out
      rw [hres]
      have hpO := (show Pk w9 p k (some s2) had Y2 from ⟨cv, HPW.out, HCW.out⟩).own HO9.out
      refine ⟨_, Y2, rfl, ((HO9.out.keepC (fun g hg => heap_setCell_other _ _ _ _ (by show g ≠ p; intro e; subst e; exact hpO _ hg (by simp)))).weaken HON.out.size), ⟨cv, HPW.out.setHad true, ?_⟩, ?_, HY2.out⟩
      · refine HCW.out.keep fun i hi => heap_setCell_other _ _ _ _ ?_
        show i ≠ p
        intro e; subst e
        exact HCW.out.apart HPW.out (by decide) (by decide) hi
      · exact (HON.out.trans (Only.of_below HB9.out) (fun i hi => .inl hi)).setCell (.inl (by simp)) _
end Go.Proofs.Ytkckjjchfccdjaa
