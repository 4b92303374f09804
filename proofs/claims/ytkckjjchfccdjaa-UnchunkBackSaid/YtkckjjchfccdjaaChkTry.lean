/- Chunks: a part is tried: its symbols are coded. -/
import Derived.Test.YtkckjjchfccdjaaMg1
import Derived.Test.YtkckjjchfccdjaaMg25
import Derived.Test.YtkckjjchfccdjaaMg22
import Derived.Lib.MinMax
import Derived.Deep.RegionHeld3
namespace Go.Proofs.Ytkckjjchfccdjaa
set_option maxRecDepth 100000
open Go.RowKit

/-- What lies below the packer: the data and the finder. -/
structure PkC (w0 : World) (k : PkS) (AF : Option Addr) (cF mp B bD oD : Nat) : Prop where
  ready : Ready w0 k.F AF cF k.D (k.dict : Nat) k.nice mp B
  addr : k.A = some ⟨bD, oD, none⟩
  bytes : Bytes w0 k.A k.D
  blk : bD < w0.heap.size
  cap : k.D.length ≤ k.cD
  small : k.D.length ≤ 100000
  dict : 1 ≤ k.dict
  nice : k.nice ≤ 273
  lc : k.lc ≤ 4
  lp : k.lp ≤ 4
  pb : k.pb ≤ 4
  lclp : k.lc + k.lp ≤ 4
/-- The coder that a part is coded with. -/
def codOf (s : CodS) : Nat × R4 × (Nat → Nat) := s.getD newCod
def TryDone (w : World) (p : Nat) (k : PkS) (had : Bool) (Y : List Nat) (r : List UInt8 × (Nat × R4 × (Nat → Nat))) (e : Ending) (w' : World) : Prop :=
  ∃ v Y', e = .returned (.tuple #[v, .int .i64 0]) ∧ Own w.heap.size w' v r.1 ∧ Pk w' p k (some r.2) had Y' ∧ Only (p :: Y) w w' ∧ (∀ i ∈ Y', i ∈ Y ∨ w.heap.size ≤ i) ∧ 5 ≤ r.1.length ∧ r.1.length + 100 ≤ 140737488355328
theorem newCod1 {w w' : World} {k : PkS} {C L : Nat} (hM : ModAt w C L k.lc k.lp k.pb 0 (1, 1, 1, 1) (fun _ => 1024)) (hb : Below w.heap.size w w') : Cod1 w' k C L newCod :=
  ⟨hM.keep (hb.block _ hM.clt) (hb.block _ hM.llt), by decide, by unfold rGood newCod; decide⟩
/-- The symbols that are left stand for what is left. -/
theorem putAll_step {lc lp pb : Nat} {D : List UInt8} {s : Sy} {l : List Sy} {p : Nat} {st : Nat} {r : R4} {x : EncS} {g : Nat} {s' : Sy} {st' : Nat} {r' : R4} {Z : EncS} (h : Md.sym (encIo g) lc lp pb st r (D.take p) (s.k : Nat) s.b (s.l : Nat) (s.d : Nat) (s.r : Nat) x = (s', st', r', Z)) :
    putAll lc lp pb D (s :: l) p (st, r, x) = putAll lc lp pb D l (p + max s.l 1) (st', r', Z) := by
  have e := (sym_g g lc lp pb st r (D.take p) (s.k : Nat) s.b (s.l : Nat) (s.d : Nat) (s.r : Nat) x).symm.trans h
  show putAll lc lp pb D l (p + max s.l 1) ((Md.sym (encIo 0) lc lp pb st r (D.take p) (s.k : Nat) s.b (s.l : Nat) (s.d : Nat) (s.r : Nat) x).2) = _
  rw [e]
/-- Between two symbols: the coder, and the coder of bits. -/
structure TryI (k : PkS) (C L g : Nat) (X0 : List Nat) (w8 wr : World) (st : Nat) (r : R4) (x : EncS) (n : Nat) : Prop where
  ms : ∃ X, MS (encIo g) wr C L k.lc k.lp k.pb st r x X ∧ ∀ i ∈ X, i ∈ X0 ∨ w8.heap.size ≤ i
  only : Only (C :: L :: X0) w8 wr
  st : st < 12
  good : rGood r
  ok : (encIo g).ok x.2 n
theorem TryI.put {k : PkS} {C L g : Nat} {X0 X : List Nat} {w8 wr w1 w2 : World} {st' : Nat} {r' : R4} {Z : EncS} {n : Nat} (hX : ∀ i ∈ X, i ∈ X0 ∨ w8.heap.size ≤ i) (ho : Only (C :: L :: X0) w8 wr) (hb : Below wr.heap.size wr w1) (hw : Went (encIo g) C L k.lc k.lp k.pb st' r' Z X w1 w2) (h1 : st' < 12) (h2 : rGood r') (h3 : (encIo g).ok Z.2 n) :
    TryI k C L g X0 w8 w2 st' r' Z n := by
  obtain ⟨X', hM, hon, hX'⟩ := hw
  have ho1 : Only (C :: L :: X0) w8 w1 := ho.trans (Only.of_below hb) (fun i hi => .inl hi)
  refine ⟨⟨X', hM, fun i hi => ?_⟩, ho1.trans hon (fun i hi => ?_), h1, h2, h3⟩
  · rcases hX' i hi with h | h
    · exact hX i h
    · exact .inr (Nat.le_trans ho1.size h)
  · rcases List.mem_cons.1 hi with rfl | hi
    · exact .inl (by simp)
    · rcases List.mem_cons.1 hi with rfl | hi
      · exact .inl (by simp)
      · rcases hX i hi with h | h
        · exact .inl (by simp [h])
        · exact .inr h
set_option maxRecDepth 100000 in
set_option maxHeartbeats 8000000 in
theorem try_any {w0 w : World} {p : Nat} {k : PkS} {s : CodS} {had : Bool} {Y : List Nat} {AF : Option Addr} {cF mp B bD oD : Nat} (c : PkC w0 k AF cF mp B bD oD) (hb : Below w0.heap.size w0 w) (h : Pk w p k s had Y) (hp : w0.heap.size ≤ p) (hY : ∀ i ∈ Y, w0.heap.size ≤ i) (a b : Nat) (hab : a < b) (hbl : b ≤ k.D.length) :
    Calls Try.prog 34 #[PF p, .int .i64 (a : Nat), .int .i64 (b : Nat)] w (TryDone w p k had Y (codeOf k a b (codOf s))) := by
  obtain ⟨cv, hP, hC⟩ := h.ex
  have HC := Lib.hid c
  have HB := Lib.hid hb
  have HP := Lib.hid hP
  have HCC := Lib.hid hC
  have HPY := Lib.hid (And.intro hp hY)
  have HAB := Lib.hid (And.intro hab hbl)
  have HCL : Hid (∀ W, Below w.heap.size w W → W.cell? ⟨p, 1, none⟩ = some (.int .i64 (k.lc : Nat)) ∧ W.cell? ⟨p, 2, none⟩ = some (.int .i64 (k.lp : Nat)) ∧ W.cell? ⟨p, 3, none⟩ = some (.int .i64 (k.pb : Nat))) := Lib.hid (fun W hW => by
    have h1 := hP.below hW
    exact ⟨h1.lc, h1.lp, h1.pb⟩)
  have HNEW := Lib.hid (fun W => mnew_good k.lc k.lp k.pb W c.lc c.lp c.pb c.lclp)
  obtain ⟨cp, rfl⟩ : ∃ q, cv = .pointer q := by
    cases s with
    | none => exact ⟨_, hC.1⟩
    | some s => obtain ⟨C, L, e, _⟩ := hC; exact ⟨_, e⟩
  have c11 := hP.cod
  have hai : (a : Int) < (b : Int) := by omega
  have hdi : (k.D.length : Int) ≤ 100000 := by have := c.small; omega
  have hbi : (b : Int) ≤ (k.D.length : Int) := by omega
  clear c hb h hp hY hab hbl hP hC
  go_enter Try.func34, Try.ntmps34
  go_upto_if 22 with fail
  go_cut [] from 8 (fun wx => ∃ C L, PkAt wx p k (PF C) had ∧ Cod1 wx k C L (codOf s) ∧ Only (p :: Y) w wx ∧ ∀ i ∈ [C, L], i ∈ Y ∨ w.heap.size ≤ i)
  case first =>
    cases s with
    | some s =>
      obtain ⟨C, L, hcv, rfl, hc⟩ := HCC.out
      injection hcv with hcv
      subst hcv
      go_wp2_with fail
      go_meet
      exact ⟨C, L, HP.out, hc, Only.refl _ _, fun i hi => .inl hi⟩
    | none =>
      obtain ⟨hcv, rfl⟩ := HCC.out
      injection hcv with hcv
      subst hcv
      go_upto_region 2 with fail
      have hdr : Below w.heap.size w w.drew := ⟨rfl, rfl, rfl, Nat.le_refl _, fun _ _ => rfl⟩
      refine wp_region_held_drew (S := fun w' => Below w.heap.size w w') (by kernel_rfl) hdr (fun hS => ?_)
      refine tk 0 (v := ?vta1) ?yta1 hS ?_
      case yta1 =>
        intro w hSw
        go_simp; all_goals (with_reducible rfl)
      simp only [Act.put, List.setIfInBounds_toArray, List.set_cons_zero, List.set_cons_succ]
      refine tk 1 (v := ?vta2) ?yta2 hS ?_
      case yta2 =>
        intro w hSw
        go_simp; all_goals (with_reducible rfl)
      simp only [Act.put, List.setIfInBounds_toArray, List.set_cons_zero, List.set_cons_succ]
      refine tk 2 (v := ?vta3) ?yta3 hS ?_
      case yta3 =>
        intro w hSw
        go_simp; all_goals (with_reducible rfl)
      simp only [Act.put, List.setIfInBounds_toArray, List.set_cons_zero, List.set_cons_succ]
      refine tk 3 (v := ?vta4) ?yta4 hS ?_
      case yta4 =>
        intro w hSw
        go_simp; all_goals (with_reducible rfl)
      simp only [Act.put, List.setIfInBounds_toArray, List.set_cons_zero, List.set_cons_succ]
      refine tk 4 (v := ?vta5) ?yta5 hS ?_
      case yta5 =>
        intro w hSw
        obtain ⟨k1, k2, k3⟩ := HCL.out w hSw
        go_simp; all_goals (with_reducible rfl)
      simp only [Act.put, List.setIfInBounds_toArray, List.set_cons_zero, List.set_cons_succ]
      refine tk 5 (v := ?vta6) ?yta6 hS ?_
      case yta6 =>
        intro w hSw
        go_simp; all_goals (with_reducible rfl)
      simp only [Act.put, List.setIfInBounds_toArray, List.set_cons_zero, List.set_cons_succ]
      refine tk 6 (v := ?vta7) ?yta7 hS ?_
      case yta7 =>
        intro w hSw
        go_simp; all_goals (with_reducible rfl)
      simp only [Act.put, List.setIfInBounds_toArray, List.set_cons_zero, List.set_cons_succ]
      refine tk 7 (v := ?vta8) ?yta8 hS ?_
      case yta8 =>
        intro w hSw
        go_simp; all_goals (with_reducible rfl)
      simp only [Act.put, List.setIfInBounds_toArray, List.set_cons_zero, List.set_cons_succ]
      refine tk 8 (v := ?vta9) ?yta9 hS ?_
      case yta9 =>
        intro w hSw
        go_simp; all_goals (with_reducible rfl)
      simp only [Act.put, List.setIfInBounds_toArray, List.set_cons_zero, List.set_cons_succ]
      refine tk 9 (v := ?vta10) ?yta10 hS ?_
      case yta10 =>
        intro w hSw
        obtain ⟨k1, k2, k3⟩ := HCL.out w hSw
        go_simp; all_goals (with_reducible rfl)
      simp only [Act.put, List.setIfInBounds_toArray, List.set_cons_zero, List.set_cons_succ]
      refine tk 10 (v := ?vta11) ?yta11 hS ?_
      case yta11 =>
        intro w hSw
        go_simp; all_goals (with_reducible rfl)
      simp only [Act.put, List.setIfInBounds_toArray, List.set_cons_zero, List.set_cons_succ]
      refine tk 11 (v := ?vta12) ?yta12 hS ?_
      case yta12 =>
        intro w hSw
        go_simp; all_goals (with_reducible rfl)
      simp only [Act.put, List.setIfInBounds_toArray, List.set_cons_zero, List.set_cons_succ]
      refine tk 12 (v := ?vta13) ?yta13 hS ?_
      case yta13 =>
        intro w hSw
        go_simp; all_goals (with_reducible rfl)
      simp only [Act.put, List.setIfInBounds_toArray, List.set_cons_zero, List.set_cons_succ]
      refine tk 13 (v := ?vta14) ?yta14 hS ?_
      case yta14 =>
        intro w hSw
        go_simp; all_goals (with_reducible rfl)
      simp only [Act.put, List.setIfInBounds_toArray, List.set_cons_zero, List.set_cons_succ]
      refine tk 14 (v := ?vta15) ?yta15 hS ?_
      case yta15 =>
        intro w hSw
        obtain ⟨k1, k2, k3⟩ := HCL.out w hSw
        go_simp; all_goals (with_reducible rfl)
      simp only [Act.put, List.setIfInBounds_toArray, List.set_cons_zero, List.set_cons_succ]
      refine wpAnyH_ready (rs := [15]) (by kernel_rfl) (by simp) ?_
      refine (AllReadyH.cons (o := { dst := some 39, op := Op.call { callee := Callee.value (Operand.func 28), args := #[Operand.tmp 28, Operand.tmp 33, Operand.tmp 38], argTypes := #[3, 3, 3] }, type := 74, pos := "chunks.go:115", after := #[{ on := 4, ground := Ground.data }, { on := 9, ground := Ground.data }, { on := 14, ground := Ground.data }], guard := none }) rfl (fun K hK => ?_) AllReadyH.nil)
      go_simp
      refine (HNEW.out _).mono ?_
      rintro e w1 ⟨C, L, rfl, hM1, hb1, hC1, hL1⟩
      have g15 := hdr.trans (hb1.mono hdr.size)
      go_wp2_with fail
      refine hK.out _ _ g15 (fun _ => ?_)
      clear hK K
      refine tk 16 (v := ?vta16) ?yta16 g15 ?_
      case yta16 =>
        intro w hSw
        go_simp; all_goals (with_reducible rfl)
      simp only [Act.put, List.setIfInBounds_toArray, List.set_cons_zero, List.set_cons_succ]
      refine tk 17 (v := ?vta17) ?yta17 g15 ?_
      case yta17 =>
        intro w hSw
        go_simp; all_goals (with_reducible rfl)
      simp only [Act.put, List.setIfInBounds_toArray, List.set_cons_zero, List.set_cons_succ]
      refine tk 18 (v := ?vta18) ?yta18 g15 ?_
      case yta18 =>
        intro w hSw
        go_simp; all_goals (with_reducible rfl)
      simp only [Act.put, List.setIfInBounds_toArray, List.set_cons_zero, List.set_cons_succ]
      refine tk 19 (v := ?vta19) ?yta19 g15 ?_
      case yta19 =>
        intro w hSw
        go_simp; all_goals (with_reducible rfl)
      simp only [Act.put, List.setIfInBounds_toArray, List.set_cons_zero, List.set_cons_succ]
      refine tk 20 (v := ?vta20) ?yta20 g15 ?_
      case yta20 =>
        intro w hSw
        go_simp; all_goals (with_reducible rfl)
      simp only [Act.put, List.setIfInBounds_toArray, List.set_cons_zero, List.set_cons_succ]
      refine wpAnyH_done (by kernel_rfl) ?_ _

      have HG15 := Lib.hid g15
      have HM1 := Lib.hid hM1
      have HCG : Hid (w.heap.size ≤ C ∧ w.heap.size ≤ L) := Lib.hid ⟨hC1, hL1⟩
      have hP1 := HP.out.below g15
      have f11 := hP1.frozen 11
      have k11 := hP1.cod
      clear hS g15 hM1 hC1 hL1 hb1 hdr hP1
      go_wp2_with fail
      go_meet
      have hps : p < w.heap.size := HP.out.lt
      have hP2 := (HP.out.below HG15.out).setCod (PF C)
      have hset : Below w1.heap.size w1 (w1.setCell ⟨p, 11, none⟩ (PF C)) ∨ True := .inr trivial
      refine ⟨C, L, hP2, ?_, ?_, fun i hi => ?_⟩
      · have hc := newCod1 (k := k) HM1.out (Below.refl _ _)
        refine hc.keep ?_ ?_
        · exact heap_setCell_other _ _ _ _ (by show C ≠ p; have := HCG.out.1; omega)
        · exact heap_setCell_other _ _ _ _ (by show L ≠ p; have := HCG.out.2; omega)
      · exact (Only.of_below HG15.out).setCell (.inl (by simp)) _
      · simp only [List.mem_cons, List.not_mem_nil, or_false] at hi
        rcases hi with rfl | rfl
        · exact .inr HCG.out.1
        · exact .inr HCG.out.2
  case rest =>
  obtain ⟨WC, hWC⟩ : ∃ W, W = wc := ⟨_, rfl⟩
  subst hWC
  obtain ⟨C, L, hPx, hCx, hox, hCLx⟩ := hcut
  obtain ⟨⟨st1, r1, P1⟩, hs1⟩ : ∃ q, codOf s = q := ⟨_, rfl⟩
  rw [hs1] at hCx
  have HPX := Lib.hid hPx
  have HCDX := Lib.hid hCx
  have HOX := Lib.hid hox
  have HCLX := Lib.hid hCLx
  have hbwc : Below w0.heap.size w0 WC := HB.out.trans (HOX.out.below HB.out.size (fun i hi => by
    rcases List.mem_cons.1 hi with rfl | hi
    · exact HPY.out.1
    · exact HPY.out.2 i hi))
  have HBX := Lib.hid hbwc
  have HCGE : Hid (w0.heap.size ≤ C ∧ w0.heap.size ≤ L) := Lib.hid (by
    constructor
    · rcases HCLX.out C (by simp) with h | h
      · exact HPY.out.2 _ h
      · exact Nat.le_trans HB.out.size h
    · rcases HCLX.out L (by simp) with h | h
      · exact HPY.out.2 _ h
      · exact Nat.le_trans HB.out.size h)
  have hpCL : p ≠ C ∧ p ≠ L := by
    have h := (show CodIs WC k (PF C) [C, L] (some (st1, r1, P1)) from ⟨C, L, rfl, rfl, hCx⟩).apart hPx (by decide) (by decide)
    simp only [List.mem_cons, List.not_mem_nil, or_false, not_or] at h
    exact h
  have HPCL := Lib.hid hpCL
  have HCX : Hid (∀ W, Below WC.heap.size WC W → W.cell? ⟨p, 0, none⟩ = some (.slice k.A k.D.length k.cD) ∧ W.cell? ⟨p, 10, none⟩ = some (PF k.F) ∧ W.cell? ⟨p, 11, none⟩ = some (PF C)) := Lib.hid (fun W hW => by
    have h1 := HPX.out.below hW
    exact ⟨h1.data, h1.find, h1.cod⟩)
  have HREP : Hid (∀ W, Below WC.heap.size WC W → Calls Try.prog 47 #[PF C] W (Tells r1.val W)) := Lib.hid (fun W hW => repeats_any (HCDX.out.mod.keep (hW.block _ HCDX.out.mod.clt) (hW.block _ HCDX.out.mod.llt)))
  obtain ⟨LS, hLS⟩ : ∃ LS, partSyms k a b r1 = LS := ⟨_, rfl⟩
  obtain ⟨rS, hrS⟩ : ∃ rS, (symsOf k.D (k.dict : Nat) k.nice b (b - a) a r1).2 = rS := ⟨_, rfl⟩
  have HSYM : Hid (∀ W, Below WC.heap.size WC W → Calls Try.prog 46 #[PF k.F, .slice k.A k.D.length k.cD, .int .i64 (a : Nat), .int .i64 (b : Nat), r1.val] W (SymsDone LS rS W)) := Lib.hid (fun W hW => by
    have hbW : Below w0.heap.size w0 W := HBX.out.trans (hW.mono HBX.out.size)
    have h := Symbols_any k.F AF k.A cF k.cD k.D (k.dict : Nat) k.nice mp B a b r1 W (HC.out.ready.below (hbW)) (HC.out.bytes.below hbW) HC.out.cap (Nat.le_of_lt HAB.out.1) HAB.out.2
    rw [hrS, show (symsOf k.D (k.dict : Nat) k.nice b (b - a) a r1).1 = LS from hLS] at h
    exact h)
  have HLS := Lib.hid hLS
  have HS1 := Lib.hid hs1
  clear hPx hCx hox hCLx hs1 hbwc hpCL hLS hrS c11
  go_upto_region 6 with fail
  go_cut [10, 12] from 10 (fun s10 s12 wx => s12 = .int .i64 0 ∧ OwnS WC.heap.size wx s10 LS ∧ Below WC.heap.size WC wx)
  case first =>
    have hdr : Below WC.heap.size WC WC.drew := ⟨rfl, rfl, rfl, Nat.le_refl _, fun _ _ => rfl⟩
    refine wp_region_held_drew (S := fun w' => Below WC.heap.size WC w') (by kernel_rfl) hdr (fun hS => ?_)
    refine tk 0 (v := ?vtb21) ?ytb21 hS ?_
    case ytb21 =>
      intro w hSw
      go_simp; all_goals (with_reducible rfl)
    simp only [Act.put, List.setIfInBounds_toArray, List.set_cons_zero, List.set_cons_succ]
    refine tk 1 (v := ?vtb22) ?ytb22 hS ?_
    case ytb22 =>
      intro w hSw
      go_simp; all_goals (with_reducible rfl)
    simp only [Act.put, List.setIfInBounds_toArray, List.set_cons_zero, List.set_cons_succ]
    refine tk 2 (v := ?vtb23) ?ytb23 hS ?_
    case ytb23 =>
      intro w hSw
      go_simp; all_goals (with_reducible rfl)
    simp only [Act.put, List.setIfInBounds_toArray, List.set_cons_zero, List.set_cons_succ]
    refine tk 3 (v := ?vtb24) ?ytb24 hS ?_
    case ytb24 =>
      intro w hSw
      obtain ⟨k0, k10, k11⟩ := HCX.out w hSw
      go_simp; all_goals (with_reducible rfl)
    simp only [Act.put, List.setIfInBounds_toArray, List.set_cons_zero, List.set_cons_succ]
    refine tk 4 (v := ?vtb25) ?ytb25 hS ?_
    case ytb25 =>
      intro w hSw
      go_simp; all_goals (with_reducible rfl)
    simp only [Act.put, List.setIfInBounds_toArray, List.set_cons_zero, List.set_cons_succ]
    refine tk 5 (v := ?vtb26) ?ytb26 hS ?_
    case ytb26 =>
      intro w hSw
      go_simp; all_goals (with_reducible rfl)
    simp only [Act.put, List.setIfInBounds_toArray, List.set_cons_zero, List.set_cons_succ]
    refine tk 6 (v := ?vtb27) ?ytb27 hS ?_
    case ytb27 =>
      intro w hSw
      go_simp; all_goals (with_reducible rfl)
    simp only [Act.put, List.setIfInBounds_toArray, List.set_cons_zero, List.set_cons_succ]
    refine tk 7 (v := ?vtb28) ?ytb28 hS ?_
    case ytb28 =>
      intro w hSw
      obtain ⟨k0, k10, k11⟩ := HCX.out w hSw
      go_simp; all_goals (with_reducible rfl)
    simp only [Act.put, List.setIfInBounds_toArray, List.set_cons_zero, List.set_cons_succ]
    refine tk 8 (v := ?vtb29) ?ytb29 hS ?_
    case ytb29 =>
      intro w hSw
      go_simp; all_goals (with_reducible rfl)
    simp only [Act.put, List.setIfInBounds_toArray, List.set_cons_zero, List.set_cons_succ]
    refine tk 9 (v := ?vtb30) ?ytb30 hS ?_
    case ytb30 =>
      intro w hSw
      go_simp; all_goals (with_reducible rfl)
    simp only [Act.put, List.setIfInBounds_toArray, List.set_cons_zero, List.set_cons_succ]
    refine tk 10 (v := ?vtb31) ?ytb31 hS ?_
    case ytb31 =>
      intro w hSw
      go_simp; all_goals (with_reducible rfl)
    simp only [Act.put, List.setIfInBounds_toArray, List.set_cons_zero, List.set_cons_succ]
    refine tk 11 (v := ?vtb32) ?ytb32 hS ?_
    case ytb32 =>
      intro w hSw
      go_simp; all_goals (with_reducible rfl)
    simp only [Act.put, List.setIfInBounds_toArray, List.set_cons_zero, List.set_cons_succ]
    refine tk 12 (v := ?vtb33) ?ytb33 hS ?_
    case ytb33 =>
      intro w hSw
      go_simp; all_goals (with_reducible rfl)
    simp only [Act.put, List.setIfInBounds_toArray, List.set_cons_zero, List.set_cons_succ]
    refine tk 13 (v := ?vtb34) ?ytb34 hS ?_
    case ytb34 =>
      intro w hSw
      obtain ⟨k0, k10, k11⟩ := HCX.out w hSw
      go_simp; all_goals (with_reducible rfl)
    simp only [Act.put, List.setIfInBounds_toArray, List.set_cons_zero, List.set_cons_succ]
    refine wpAnyH_ready (rs := [14, 20]) (by kernel_rfl) (by simp) ?_
    refine (AllReadyH.cons (o := { dst := some 64, op := Op.call { callee := Callee.value (Operand.func 47), args := #[Operand.tmp 63], argTypes := #[41] }, type := 103, pos := "chunks.go:121", after := #[{ on := 13, ground := Ground.data }], guard := none }) rfl (fun K hK => ?_) (AllReadyH.cons (o := { dst := some 11, op := Op.alloc 103, type := 0, pos := "chunks.go:121", after := #[], guard := none }) rfl (fun K hK => ?_) AllReadyH.nil))
    · skip
      go_simp
      refine (HREP.out _ hdr).mono ?_
      rintro e x14 ⟨rfl, hb14⟩
      have g14 := hdr.trans (hb14.mono hdr.size)
      have HB14 := Lib.hid hb14
      clear hb14
      go_wp2_with fail
      refine hK.out _ _ g14 (fun _ => ?_)
      clear hK K
      refine wpAnyH_ready (rs := [15, 20]) (by kernel_rfl) (by simp) ?_
      refine (AllReadyH.cons (o := { dst := some 65, op := Op.call { callee := Callee.value (Operand.func 46), args := #[Operand.tmp 53, Operand.tmp 57, Operand.tmp 58, Operand.tmp 59, Operand.tmp 64], argTypes := #[53, 22, 3, 3, 103] }, type := 127, pos := "chunks.go:121", after := #[{ on := 3, ground := Ground.data }, { on := 7, ground := Ground.data }, { on := 8, ground := Ground.data }, { on := 9, ground := Ground.data }, { on := 14, ground := Ground.data }, { on := 14, ground := Ground.chain }], guard := none }) rfl (fun K hK => ?_) (AllReadyH.cons (o := { dst := some 11, op := Op.alloc 103, type := 0, pos := "chunks.go:121", after := #[], guard := none }) rfl (fun K hK => ?_) AllReadyH.nil))
      · skip
        go_simp
        refine (HSYM.out x14 g14).mono ?_
        rintro e x15 ⟨v15, rfl, hos, hb15⟩
        have g15 := g14.trans (hb15.mono g14.size)
        have HG15 := Lib.hid g15
        have HOS := Lib.hid hos
        have HB15 := Lib.hid hb15
        clear hb15 hos
        go_wp2_with fail
        refine hK.out _ _ HG15.out (fun _ => ?_)
        clear hK K
        refine tk 16 (v := ?vtb35) ?ytb35 HG15.out ?_
        case ytb35 =>
          intro w hSw
          go_simp; all_goals (with_reducible rfl)
        simp only [Act.put, List.setIfInBounds_toArray, List.set_cons_zero, List.set_cons_succ]
        refine tk 17 (v := ?vtb36) ?ytb36 HG15.out ?_
        case ytb36 =>
          intro w hSw
          go_simp; all_goals (with_reducible rfl)
        simp only [Act.put, List.setIfInBounds_toArray, List.set_cons_zero, List.set_cons_succ]
        refine tk 18 (v := ?vtb37) ?ytb37 HG15.out ?_
        case ytb37 =>
          intro w hSw
          go_simp; all_goals (with_reducible rfl)
        simp only [Act.put, List.setIfInBounds_toArray, List.set_cons_zero, List.set_cons_succ]
        refine tk 19 (v := ?vtb38) ?ytb38 HG15.out ?_
        case ytb38 =>
          intro w hSw
          go_simp; all_goals (with_reducible rfl)
        simp only [Act.put, List.setIfInBounds_toArray, List.set_cons_zero, List.set_cons_succ]
        refine wpAnyH_ready (rs := [20]) (by kernel_rfl) (by simp) ?_
        refine (AllReadyH.cons (o := { dst := some 11, op := Op.alloc 103, type := 0, pos := "chunks.go:121", after := #[], guard := none }) rfl (fun K hK => ?_) AllReadyH.nil)
        go_simp
        refine hK.out _ _ (HG15.out.alloc HG15.out.size _) (fun _ => ?_)
        clear hK K
        refine tk 21 (v := ?vtb39) ?ytb39 (HG15.out.alloc HG15.out.size _) ?_
        case ytb39 =>
          intro w hSw
          go_simp; all_goals (with_reducible rfl)
        simp only [Act.put, List.setIfInBounds_toArray, List.set_cons_zero, List.set_cons_succ]
        refine wpAnyH_ready (rs := [22]) (by kernel_rfl) (by simp) ?_
        refine (AllReadyH.cons (o := { dst := none, op := Op.store 103 (Operand.tmp 11) (Operand.tmp 67), type := 0, pos := "chunks.go:121", after := #[{ on := 20, ground := Ground.data }, { on := 18, ground := Ground.data }, { on := 21, ground := Ground.chain }, { on := 0, ground := Ground.phase }, { on := 1, ground := Ground.phase }, { on := 2, ground := Ground.phase }, { on := 3, ground := Ground.phase }, { on := 4, ground := Ground.phase }, { on := 5, ground := Ground.phase }, { on := 6, ground := Ground.phase }, { on := 7, ground := Ground.phase }, { on := 8, ground := Ground.phase }, { on := 9, ground := Ground.phase }, { on := 10, ground := Ground.phase }, { on := 11, ground := Ground.phase }, { on := 12, ground := Ground.phase }, { on := 13, ground := Ground.phase }, { on := 14, ground := Ground.phase }, { on := 15, ground := Ground.phase }, { on := 16, ground := Ground.phase }, { on := 17, ground := Ground.phase }, { on := 18, ground := Ground.phase }, { on := 19, ground := Ground.textOnly Departure.lateStores }, { on := 20, ground := Ground.phase }, { on := 21, ground := Ground.phase }], guard := none }) rfl (fun K hK => ?_) AllReadyH.nil)
        go_simp
        refine hK.out _ _ (HG15.out.alloc HG15.out.size _) (fun _ => ?_)
        clear hK K
        refine tk 23 (v := ?vtb40) ?ytb40 (HG15.out.alloc HG15.out.size _) ?_
        case ytb40 =>
          intro w hSw
          go_simp; all_goals (with_reducible rfl)
        simp only [Act.put, List.setIfInBounds_toArray, List.set_cons_zero, List.set_cons_succ]
        refine wpAnyH_done (by kernel_rfl) ?_ _
        go_wp2_with fail
        go_meet
        exact ⟨rfl, by first | exact (HOS.out.weaken g14.size).below ((Below.refl _ _).alloc (Nat.le_refl _) _) | exact ((((HOS.out.set HGE.out.2 _).set HGE.out.2 _).set HGE.out.2 _).set HGE.out.2 _).weaken gA.size | exact ((((HOS.out.set (Nat.lt_of_lt_of_le HGE.out.2 HB14.out.size) _).set (Nat.lt_of_lt_of_le HGE.out.2 HB14.out.size) _).set (Nat.lt_of_lt_of_le HGE.out.2 HB14.out.size) _).set (Nat.lt_of_lt_of_le HGE.out.2 HB14.out.size) _).weaken g14.size, by first | exact HG15.out.alloc HG15.out.size _ | exact ((((HG15.out.setCell HGE.out.1 _).setCell HGE.out.1 _).setCell HGE.out.1 _).setCell HGE.out.1 _)⟩
      · skip
        go_simp
        obtain ⟨WA, hWA⟩ : ∃ W, x14.alloc (.cells #[.int .i64 0, .int .i64 0, .int .i64 0, .int .i64 0] 103) = W := ⟨_, rfl⟩
        rw [hWA]
        have gA : Below WC.heap.size WC WA := by rw [← hWA]; have h := ((g14 : Below WC.heap.size WC x14).alloc (by first | exact Nat.le_refl _ | exact g14.size) (.cells #[.int .i64 0, .int .i64 0, .int .i64 0, .int .i64 0] 103)); exact ⟨h.os, h.tape, h.output, h.size, h.block⟩
        have hrA : WA.heap[x14.heap.size]? = some (.cells #[.int .i64 0, .int .i64 0, .int .i64 0, .int .i64 0] 103 (0, 0)) := by rw [← hWA]; exact heap_alloc_new _ _
        have HRA := Lib.hid hrA
        have HGE : Hid (WC.heap.size ≤ x14.heap.size ∧ x14.heap.size < WA.heap.size) := Lib.hid ⟨g14.size, (Array.getElem?_eq_some_iff.1 hrA).1⟩
        clear hWA hrA
        refine hK.out _ _ gA (fun _ => ?_)
        clear hK K
        refine wpAnyH_ready (rs := [15]) (by kernel_rfl) (by simp) ?_
        refine (AllReadyH.cons (o := { dst := some 65, op := Op.call { callee := Callee.value (Operand.func 46), args := #[Operand.tmp 53, Operand.tmp 57, Operand.tmp 58, Operand.tmp 59, Operand.tmp 64], argTypes := #[53, 22, 3, 3, 103] }, type := 127, pos := "chunks.go:121", after := #[{ on := 3, ground := Ground.data }, { on := 7, ground := Ground.data }, { on := 8, ground := Ground.data }, { on := 9, ground := Ground.data }, { on := 14, ground := Ground.data }, { on := 14, ground := Ground.chain }], guard := none }) rfl (fun K hK => ?_) AllReadyH.nil)
        go_simp
        refine (HSYM.out WA gA).mono ?_
        rintro e x15 ⟨v15, rfl, hos, hb15⟩
        have g15 := gA.trans (hb15.mono gA.size)
        have HG15 := Lib.hid g15
        have HOS := Lib.hid hos
        have HB15 := Lib.hid hb15
        clear hb15 hos
        go_wp2_with fail
        refine hK.out _ _ HG15.out (fun _ => ?_)
        clear hK K
        refine tk 16 (v := ?vtb41) ?ytb41 HG15.out ?_
        case ytb41 =>
          intro w hSw
          go_simp; all_goals (with_reducible rfl)
        simp only [Act.put, List.setIfInBounds_toArray, List.set_cons_zero, List.set_cons_succ]
        refine tk 17 (v := ?vtb42) ?ytb42 HG15.out ?_
        case ytb42 =>
          intro w hSw
          go_simp; all_goals (with_reducible rfl)
        simp only [Act.put, List.setIfInBounds_toArray, List.set_cons_zero, List.set_cons_succ]
        refine tk 18 (v := ?vtb43) ?ytb43 HG15.out ?_
        case ytb43 =>
          intro w hSw
          go_simp; all_goals (with_reducible rfl)
        simp only [Act.put, List.setIfInBounds_toArray, List.set_cons_zero, List.set_cons_succ]
        refine tk 19 (v := ?vtb44) ?ytb44 HG15.out ?_
        case ytb44 =>
          intro w hSw
          go_simp; all_goals (with_reducible rfl)
        simp only [Act.put, List.setIfInBounds_toArray, List.set_cons_zero, List.set_cons_succ]
        refine tk 21 (v := ?vtb45) ?ytb45 HG15.out ?_
        case ytb45 =>
          intro w hSw
          go_simp; all_goals (with_reducible rfl)
        simp only [Act.put, List.setIfInBounds_toArray, List.set_cons_zero, List.set_cons_succ]
        refine wpAnyH_ready (rs := [22]) (by kernel_rfl) (by simp) ?_
        refine (AllReadyH.cons (o := { dst := none, op := Op.store 103 (Operand.tmp 11) (Operand.tmp 67), type := 0, pos := "chunks.go:121", after := #[{ on := 20, ground := Ground.data }, { on := 18, ground := Ground.data }, { on := 21, ground := Ground.chain }, { on := 0, ground := Ground.phase }, { on := 1, ground := Ground.phase }, { on := 2, ground := Ground.phase }, { on := 3, ground := Ground.phase }, { on := 4, ground := Ground.phase }, { on := 5, ground := Ground.phase }, { on := 6, ground := Ground.phase }, { on := 7, ground := Ground.phase }, { on := 8, ground := Ground.phase }, { on := 9, ground := Ground.phase }, { on := 10, ground := Ground.phase }, { on := 11, ground := Ground.phase }, { on := 12, ground := Ground.phase }, { on := 13, ground := Ground.phase }, { on := 14, ground := Ground.phase }, { on := 15, ground := Ground.phase }, { on := 16, ground := Ground.phase }, { on := 17, ground := Ground.phase }, { on := 18, ground := Ground.phase }, { on := 19, ground := Ground.textOnly Departure.lateStores }, { on := 20, ground := Ground.phase }, { on := 21, ground := Ground.phase }], guard := none }) rfl (fun K hK => ?_) AllReadyH.nil)
        go_simp
        have hro := (HB15.out.block _ HGE.out.2).trans HRA.out
        have z0 : x15.cell? ⟨x14.heap.size, 0, none⟩ = some (.int .i64 0) := by rw [cell_of_row x15 _ _ _ _ _ hro]; rfl
        have z1 : x15.cell? ⟨x14.heap.size, 1, none⟩ = some (.int .i64 0) := by rw [cell_of_row x15 _ _ _ _ _ hro]; rfl
        have z2 : x15.cell? ⟨x14.heap.size, 2, none⟩ = some (.int .i64 0) := by rw [cell_of_row x15 _ _ _ _ _ hro]; rfl
        have z3 : x15.cell? ⟨x14.heap.size, 3, none⟩ = some (.int .i64 0) := by rw [cell_of_row x15 _ _ _ _ _ hro]; rfl
        have zf0 : x15.frozen? ⟨x14.heap.size, 0, none⟩ = false := frozen_of_row x15 _ 0 _ _ hro
        have zf1 : x15.frozen? ⟨x14.heap.size, 1, none⟩ = false := frozen_of_row x15 _ 1 _ _ hro
        have zf2 : x15.frozen? ⟨x14.heap.size, 2, none⟩ = false := frozen_of_row x15 _ 2 _ _ hro
        have zf3 : x15.frozen? ⟨x14.heap.size, 3, none⟩ = false := frozen_of_row x15 _ 3 _ _ hro
        go_simp
        refine hK.out _ _ ((((HG15.out.setCell (p := ⟨x14.heap.size, 0, none⟩) HGE.out.1 _).setCell (p := ⟨x14.heap.size, 1, none⟩) HGE.out.1 _).setCell (p := ⟨x14.heap.size, 2, none⟩) HGE.out.1 _).setCell (p := ⟨x14.heap.size, 3, none⟩) HGE.out.1 _) (fun _ => ?_)
        clear hK K
        refine tk 23 (v := ?vtb46) ?ytb46 ((((HG15.out.setCell (p := ⟨x14.heap.size, 0, none⟩) HGE.out.1 _).setCell (p := ⟨x14.heap.size, 1, none⟩) HGE.out.1 _).setCell (p := ⟨x14.heap.size, 2, none⟩) HGE.out.1 _).setCell (p := ⟨x14.heap.size, 3, none⟩) HGE.out.1 _) ?_
        case ytb46 =>
          intro w hSw
          go_simp; all_goals (with_reducible rfl)
        simp only [Act.put, List.setIfInBounds_toArray, List.set_cons_zero, List.set_cons_succ]
        refine wpAnyH_done (by kernel_rfl) ?_ _
        go_wp2_with fail
        go_meet
        exact ⟨rfl, by first | exact (HOS.out.weaken g14.size).below ((Below.refl _ _).alloc (Nat.le_refl _) _) | exact ((((HOS.out.set HGE.out.2 _).set HGE.out.2 _).set HGE.out.2 _).set HGE.out.2 _).weaken gA.size | exact ((((HOS.out.set (Nat.lt_of_lt_of_le HGE.out.2 HB14.out.size) _).set (Nat.lt_of_lt_of_le HGE.out.2 HB14.out.size) _).set (Nat.lt_of_lt_of_le HGE.out.2 HB14.out.size) _).set (Nat.lt_of_lt_of_le HGE.out.2 HB14.out.size) _).weaken g14.size, by first | exact HG15.out.alloc HG15.out.size _ | exact ((((HG15.out.setCell HGE.out.1 _).setCell HGE.out.1 _).setCell HGE.out.1 _).setCell HGE.out.1 _)⟩
    · skip
      go_simp
      obtain ⟨WA, hWA⟩ : ∃ W, (WC.alloc (.cells #[.int .i64 0, .int .i64 0, .int .i64 0, .int .i64 0] 103)).drew = W := ⟨_, rfl⟩
      rw [hWA]
      have gA : Below WC.heap.size WC WA := by rw [← hWA]; have h := ((Below.refl _ _ : Below WC.heap.size WC WC).alloc (by first | exact Nat.le_refl _ | exact g14.size) (.cells #[.int .i64 0, .int .i64 0, .int .i64 0, .int .i64 0] 103)); exact ⟨h.os, h.tape, h.output, h.size, h.block⟩
      have hrA : WA.heap[WC.heap.size]? = some (.cells #[.int .i64 0, .int .i64 0, .int .i64 0, .int .i64 0] 103 (0, 0)) := by rw [← hWA]; exact heap_alloc_new _ _
      have HRA := Lib.hid hrA
      have HGE : Hid (WC.heap.size ≤ WC.heap.size ∧ WC.heap.size < WA.heap.size) := Lib.hid ⟨Nat.le_refl _, (Array.getElem?_eq_some_iff.1 hrA).1⟩
      clear hWA hrA
      refine hK.out _ _ gA (fun _ => ?_)
      clear hK K
      refine wpAnyH_ready (rs := [14]) (by kernel_rfl) (by simp) ?_
      refine (AllReadyH.cons (o := { dst := some 64, op := Op.call { callee := Callee.value (Operand.func 47), args := #[Operand.tmp 63], argTypes := #[41] }, type := 103, pos := "chunks.go:121", after := #[{ on := 13, ground := Ground.data }], guard := none }) rfl (fun K hK => ?_) AllReadyH.nil)
      go_simp
      refine (HREP.out _ gA).mono ?_
      rintro e x14 ⟨rfl, hb14⟩
      have g14 := gA.trans (hb14.mono gA.size)
      have HB14 := Lib.hid hb14
      clear hb14
      go_wp2_with fail
      refine hK.out _ _ g14 (fun _ => ?_)
      clear hK K
      refine wpAnyH_ready (rs := [15]) (by kernel_rfl) (by simp) ?_
      refine (AllReadyH.cons (o := { dst := some 65, op := Op.call { callee := Callee.value (Operand.func 46), args := #[Operand.tmp 53, Operand.tmp 57, Operand.tmp 58, Operand.tmp 59, Operand.tmp 64], argTypes := #[53, 22, 3, 3, 103] }, type := 127, pos := "chunks.go:121", after := #[{ on := 3, ground := Ground.data }, { on := 7, ground := Ground.data }, { on := 8, ground := Ground.data }, { on := 9, ground := Ground.data }, { on := 14, ground := Ground.data }, { on := 14, ground := Ground.chain }], guard := none }) rfl (fun K hK => ?_) AllReadyH.nil)
      go_simp
      refine (HSYM.out x14 g14).mono ?_
      rintro e x15 ⟨v15, rfl, hos, hb15⟩
      have g15 := g14.trans (hb15.mono g14.size)
      have HG15 := Lib.hid g15
      have HOS := Lib.hid hos
      have HB15 := Lib.hid hb15
      clear hb15 hos
      go_wp2_with fail
      refine hK.out _ _ HG15.out (fun _ => ?_)
      clear hK K
      refine tk 16 (v := ?vtb47) ?ytb47 HG15.out ?_
      case ytb47 =>
        intro w hSw
        go_simp; all_goals (with_reducible rfl)
      simp only [Act.put, List.setIfInBounds_toArray, List.set_cons_zero, List.set_cons_succ]
      refine tk 17 (v := ?vtb48) ?ytb48 HG15.out ?_
      case ytb48 =>
        intro w hSw
        go_simp; all_goals (with_reducible rfl)
      simp only [Act.put, List.setIfInBounds_toArray, List.set_cons_zero, List.set_cons_succ]
      refine tk 18 (v := ?vtb49) ?ytb49 HG15.out ?_
      case ytb49 =>
        intro w hSw
        go_simp; all_goals (with_reducible rfl)
      simp only [Act.put, List.setIfInBounds_toArray, List.set_cons_zero, List.set_cons_succ]
      refine tk 19 (v := ?vtb50) ?ytb50 HG15.out ?_
      case ytb50 =>
        intro w hSw
        go_simp; all_goals (with_reducible rfl)
      simp only [Act.put, List.setIfInBounds_toArray, List.set_cons_zero, List.set_cons_succ]
      refine tk 21 (v := ?vtb51) ?ytb51 HG15.out ?_
      case ytb51 =>
        intro w hSw
        go_simp; all_goals (with_reducible rfl)
      simp only [Act.put, List.setIfInBounds_toArray, List.set_cons_zero, List.set_cons_succ]
      refine wpAnyH_ready (rs := [22]) (by kernel_rfl) (by simp) ?_
      refine (AllReadyH.cons (o := { dst := none, op := Op.store 103 (Operand.tmp 11) (Operand.tmp 67), type := 0, pos := "chunks.go:121", after := #[{ on := 20, ground := Ground.data }, { on := 18, ground := Ground.data }, { on := 21, ground := Ground.chain }, { on := 0, ground := Ground.phase }, { on := 1, ground := Ground.phase }, { on := 2, ground := Ground.phase }, { on := 3, ground := Ground.phase }, { on := 4, ground := Ground.phase }, { on := 5, ground := Ground.phase }, { on := 6, ground := Ground.phase }, { on := 7, ground := Ground.phase }, { on := 8, ground := Ground.phase }, { on := 9, ground := Ground.phase }, { on := 10, ground := Ground.phase }, { on := 11, ground := Ground.phase }, { on := 12, ground := Ground.phase }, { on := 13, ground := Ground.phase }, { on := 14, ground := Ground.phase }, { on := 15, ground := Ground.phase }, { on := 16, ground := Ground.phase }, { on := 17, ground := Ground.phase }, { on := 18, ground := Ground.phase }, { on := 19, ground := Ground.textOnly Departure.lateStores }, { on := 20, ground := Ground.phase }, { on := 21, ground := Ground.phase }], guard := none }) rfl (fun K hK => ?_) AllReadyH.nil)
      go_simp
      have hro := (HB15.out.block _ (Nat.lt_of_lt_of_le HGE.out.2 HB14.out.size)).trans ((HB14.out.block _ HGE.out.2).trans HRA.out)
      have z0 : x15.cell? ⟨WC.heap.size, 0, none⟩ = some (.int .i64 0) := by rw [cell_of_row x15 _ _ _ _ _ hro]; rfl
      have z1 : x15.cell? ⟨WC.heap.size, 1, none⟩ = some (.int .i64 0) := by rw [cell_of_row x15 _ _ _ _ _ hro]; rfl
      have z2 : x15.cell? ⟨WC.heap.size, 2, none⟩ = some (.int .i64 0) := by rw [cell_of_row x15 _ _ _ _ _ hro]; rfl
      have z3 : x15.cell? ⟨WC.heap.size, 3, none⟩ = some (.int .i64 0) := by rw [cell_of_row x15 _ _ _ _ _ hro]; rfl
      have zf0 : x15.frozen? ⟨WC.heap.size, 0, none⟩ = false := frozen_of_row x15 _ 0 _ _ hro
      have zf1 : x15.frozen? ⟨WC.heap.size, 1, none⟩ = false := frozen_of_row x15 _ 1 _ _ hro
      have zf2 : x15.frozen? ⟨WC.heap.size, 2, none⟩ = false := frozen_of_row x15 _ 2 _ _ hro
      have zf3 : x15.frozen? ⟨WC.heap.size, 3, none⟩ = false := frozen_of_row x15 _ 3 _ _ hro
      go_simp
      refine hK.out _ _ ((((HG15.out.setCell (p := ⟨WC.heap.size, 0, none⟩) HGE.out.1 _).setCell (p := ⟨WC.heap.size, 1, none⟩) HGE.out.1 _).setCell (p := ⟨WC.heap.size, 2, none⟩) HGE.out.1 _).setCell (p := ⟨WC.heap.size, 3, none⟩) HGE.out.1 _) (fun _ => ?_)
      clear hK K
      refine tk 23 (v := ?vtb52) ?ytb52 ((((HG15.out.setCell (p := ⟨WC.heap.size, 0, none⟩) HGE.out.1 _).setCell (p := ⟨WC.heap.size, 1, none⟩) HGE.out.1 _).setCell (p := ⟨WC.heap.size, 2, none⟩) HGE.out.1 _).setCell (p := ⟨WC.heap.size, 3, none⟩) HGE.out.1 _) ?_
      case ytb52 =>
        intro w hSw
        go_simp; all_goals (with_reducible rfl)
      simp only [Act.put, List.setIfInBounds_toArray, List.set_cons_zero, List.set_cons_succ]
      refine wpAnyH_done (by kernel_rfl) ?_ _
      go_wp2_with fail
      go_meet
      exact ⟨rfl, by first | exact (HOS.out.weaken g14.size).below ((Below.refl _ _).alloc (Nat.le_refl _) _) | exact ((((HOS.out.set HGE.out.2 _).set HGE.out.2 _).set HGE.out.2 _).set HGE.out.2 _).weaken gA.size | exact ((((HOS.out.set (Nat.lt_of_lt_of_le HGE.out.2 HB14.out.size) _).set (Nat.lt_of_lt_of_le HGE.out.2 HB14.out.size) _).set (Nat.lt_of_lt_of_le HGE.out.2 HB14.out.size) _).set (Nat.lt_of_lt_of_le HGE.out.2 HB14.out.size) _).weaken g14.size, by first | exact HG15.out.alloc HG15.out.size _ | exact ((((HG15.out.setCell HGE.out.1 _).setCell HGE.out.1 _).setCell HGE.out.1 _).setCell HGE.out.1 _)⟩
  case rest =>
  obtain ⟨h12, hOS, hb10⟩ := hcut
  subst h12
  obtain ⟨AL, cL, e10, hcL, hmL, hat⟩ := hOS.form
  subst e10
  have hLne : 0 < LS.length := by
    rw [← HLS.out]; unfold partSyms
    rw [symsOf_step HAB.out.1]
    simp
  obtain ⟨gS, hAL, hgS, _, _, _, _, _⟩ := hat 0 hLne
  subst hAL
  have hgS0 : WC.heap.size ≤ gS := (hOS.lt gS rfl).1
  have HSC : Hid (∀ n (hn : n < LS.length) (W : World), W.heap[gS]? = wc.heap[gS]? → W.cell? ⟨gS, 5 * n, none⟩ = some (.int .i64 (LS[n].k : Nat)) ∧ W.cell? ⟨gS, 5 * n + 1, none⟩ = some (.int .u8 (LS[n].b.toNat : Nat)) ∧ W.cell? ⟨gS, 5 * n + 2, none⟩ = some (.int .i64 (LS[n].l : Nat)) ∧ W.cell? ⟨gS, 5 * n + 3, none⟩ = some (.int .i64 (LS[n].d : Nat)) ∧ W.cell? ⟨gS, 5 * n + 4, none⟩ = some (.int .i64 (LS[n].r : Nat))) := Lib.hid (fun n hn W hW => by
    obtain ⟨g', e', _, c0, c1, c2, c3, c4⟩ := hat n hn
    injection e' with e'; injection e' with e' _ _
    subst e'
    exact ⟨(World.cell?_of_block (a := ⟨gS, _, none⟩) hW).trans c0, (World.cell?_of_block (a := ⟨gS, _, none⟩) hW).trans c1, (World.cell?_of_block (a := ⟨gS, _, none⟩) hW).trans c2, (World.cell?_of_block (a := ⟨gS, _, none⟩) hW).trans c3, (World.cell?_of_block (a := ⟨gS, _, none⟩) hW).trans c4⟩)
  have HGS : Hid (WC.heap.size ≤ gS ∧ gS < wc.heap.size) := Lib.hid ⟨hgS0, hgS⟩
  have hcLi : (LS.length : Int) ≤ (cL : Int) := by omega
  have hmLi : (LS.length : Int) ≤ 9223372036854775807 := by omega
  have HB10 := Lib.hid hb10
  have hCWC : C < WC.heap.size ∧ L < WC.heap.size := ⟨HCDX.out.mod.clt, HCDX.out.mod.llt⟩
  have HCW := Lib.hid hCWC
  have HPW := Lib.hid (show p < WC.heap.size from HPX.out.lt)
  clear hOS hcL hmL hat hgS hgS0 hb10 hCWC
  go_upto_region 10 with (refine (new_any _).mono ?_; rintro e w8 ⟨g, o, cap, rfl, hE8, hb8, hg8, ho8⟩; have HE8 := Lib.hid hE8; have HB8 := Lib.hid hb8; have HG8 := Lib.hid (And.intro hg8 ho8); clear hE8 hb8 hg8 ho8)
  have HM8 : Hid (MS (encIo g) w8 C L k.lc k.lp k.pb st1 r1 (P1, st0) [g, o]) := Lib.hid (by
    have hbb := HB10.out.trans (HB8.out.mono HB10.out.size)
    refine ⟨HCDX.out.mod.keep (hbb.block _ HCW.out.1) (hbb.block _ HCW.out.2), ⟨o, cap, rfl, HE8.out⟩, ?_, ?_⟩
    · have := HG8.out; have := HCW.out; have := HB10.out.size; simp only [List.mem_cons, List.not_mem_nil, or_false, not_or]; omega
    · have := HG8.out; have := HCW.out; have := HB10.out.size; simp only [List.mem_cons, List.not_mem_nil, or_false, not_or]; omega)
  have HI8 : Hid (TryI k C L g [g, o] w8 w8 st1 r1 (P1, st0) (54 * (b - a) + 100)) := Lib.hid ⟨⟨_, HM8.out, fun i hi => .inl hi⟩, Only.refl _ _, HCDX.out.st, HCDX.out.good, ⟨st0_ok, by have := HAB.out; have := HC.out.small; show 1 + 0 + 2 * _ ≤ _; omega⟩⟩
  go_wp2_with fail
  go_loopw [14, 76] (fun pv iv wr => ∃ (i pl st : Nat) (r : R4) (x : EncS), pv = .int .i64 (pl : Nat) ∧ iv = .int .i64 (i : Nat) ∧ Hid (TryI k C L g [g, o] w8 wr st r x (54 * (b - pl) + 100)) ∧ Hid (LS.drop i = (symsOf k.D (k.dict : Nat) k.nice b (b - pl) pl r).1 ∧ putAll k.lc k.lp k.pb k.D LS a (st1, r1, (P1, st0)) = putAll k.lc k.lp k.pb k.D (LS.drop i) pl (st, r, x)) ∧ i ≤ LS.length ∧ pl ≤ b) (fun _ iv _ => LS.length - (intOf iv).toNat)
  case atStart => exact ⟨0, a, st1, r1, (P1, st0), rfl, rfl, HI8, Lib.hid ⟨by rw [← HLS.out]; rfl, rfl⟩, Nat.zero_le _, Nat.le_of_lt HAB.out.1⟩
  case round =>
    obtain ⟨i, pl, st, r, x, rfl, rfl, HI, HL, hi, hplb⟩ := hrel
    by_cases hlt : i < LS.length
    case neg =>
      have hlti : ¬ (i : Int) < (LS.length : Int) := by omega
      have hdr0 : LS.drop i = [] := List.drop_eq_nil_of_le (by omega)
      have HPA : Hid (putAll k.lc k.lp k.pb k.D LS a (st1, r1, (P1, st0)) = (st, r, x)) := Lib.hid (by rw [HL.out.2, hdr0]; rfl)
      obtain ⟨X, hM, hX⟩ := HI.out.ms
      obtain ⟨oE, capE, rfl, hE⟩ := hM.io
      have hok := HI.out.ok
      have HKE : Hid (1 + x.2.k + 4 ≤ 140737488355328) := Lib.hid (by obtain ⟨_, h4⟩ := hok; omega)
      have HBY := Lib.hid (bytes_any g oE capE x.2 wr hE HKE.out)
      have HMM := Lib.hid hM
      clear hlt hdr0 hM hX hE hok hi
      go_wp2_with fail
      refine HBY.out.mono ?_
      rintro e w9 ⟨v9, rfl, ho9, hb9⟩
      go_wp2_with fail
      go_ret2
      have hcode : codeOf k a b (codOf s) = (Rc.be (5 + x.2.k) x.2.v, (st, r, x.1)) := by
        rw [HS1.out]
        unfold codeOf
        rw [HLS.out]
        show (Rc.be (5 + (putAll k.lc k.lp k.pb k.D LS a (st1, r1, (P1, st0))).2.2.2.k) _, _) = _
        rw [HPA.out]
      rw [hcode]
      have hon : Only [C, L] WC wr := by
        have h1 : Only [C, L] WC w8 := Only.of_below (HB10.out.trans (HB8.out.mono HB10.out.size))
        refine h1.trans HI.out.only (fun i hi => ?_)
        rcases List.mem_cons.1 hi with rfl | hi
        · exact .inl (by simp)
        · rcases List.mem_cons.1 hi with rfl | hi
          · exact .inl (by simp)
          · right
            have := HG8.out; have := HB10.out.size
            simp only [List.mem_cons, List.not_mem_nil, or_false] at hi
            rcases hi with rfl | rfl <;> omega
      have hon9 : Only [C, L] WC w9 := hon.trans (Only.of_below hb9) (fun i hi => .inl hi)
      have hpr : w9.heap[p]? = WC.heap[p]? := hon9.block p HPW.out (by simp only [List.mem_cons, List.not_mem_nil, or_false, not_or]; exact HPCL.out)
      refine ⟨v9, [C, L], rfl, ho9.weaken ?_, ⟨PF C, HPX.out.keep hpr, C, L, rfl, rfl, ⟨(HMM.out.mod).keep (hb9.block _ HMM.out.mod.clt) (hb9.block _ HMM.out.mod.llt), HI.out.st, HI.out.good⟩⟩, ?_, fun i hi => HCLX.out i hi, by rw [Rc.be_length]; omega, by rw [Rc.be_length]; obtain ⟨_, h4⟩ := HI.out.ok; omega⟩
      · exact Nat.le_trans HOX.out.size hon.size
      · refine HOX.out.trans hon9 (fun i hi => ?_)
        rcases HCLX.out i hi with h | h
        · exact .inl (by simp [h])
        · exact .inr h
    case pos =>
      have hlti : (i : Int) < (LS.length : Int) := by omega
      have hplt : pl < b := by
        by_cases h : pl < b
        · exact h
        · have h1 := HL.out.1
          rw [symsOf_end h] at h1
          have h2 : (LS.drop i).length = 0 := by rw [h1]; rfl
          rw [List.length_drop] at h2; omega
      obtain ⟨S, hS⟩ : ∃ S, nextS k.D (k.dict : Nat) k.nice b pl r = S := ⟨_, rfl⟩
      have hst := (next_stands_to (D := k.D) (dict := (k.dict : Nat)) (nice := k.nice) (r := r) hplt HAB.out.2 HC.out.small (by have := HC.out.dict; omega) HC.out.nice)
      have hto := next_to (D := k.D) (dict := (k.dict : Nat)) (nice := k.nice) (r := r) hplt
      have hstep := symsOf_step (D := k.D) (dict := (k.dict : Nat)) (nice := k.nice) (r := r) hplt
      rw [hS] at hst hto hstep
      have hdrop : LS.drop i = S :: (symsOf k.D (k.dict : Nat) k.nice b (b - (pl + max S.l 1)) (pl + max S.l 1) (afterS S r)).1 := by
        rw [HL.out.1, hstep]
      have hcons := List.drop_eq_getElem_cons hlt
      have hSi : LS[i] = S := by rw [hcons] at hdrop; injection hdrop
      have hrest : LS.drop (i + 1) = (symsOf k.D (k.dict : Nat) k.nice b (b - (pl + max S.l 1)) (pl + max S.l 1) (afterS S r)).1 := by rw [hcons] at hdrop; injection hdrop
      have hTl : (k.D.take pl).length = pl := by rw [List.length_take]; have := HAB.out.2; omega
      have hfit := hst.fits
      obtain ⟨s', st', r', Z, hsym, hr', _, _, _⟩ := fits_link (g := g) (lc := k.lc) (lp := k.lp) (pb := k.pb) (a := ⟨k.D.take pl, st, r, x⟩) (k := (S.k : Nat)) (b := S.b) (l := (S.l : Nat)) (d := (S.d : Nat)) (q := (S.r : Nat)) HI.out.good (by show fitsZ r ((k.D.take pl).length : Int) _ _ _ _ = true; rw [hTl]; exact hfit)
      have hr2 : r' = afterS S r := hr'.trans (repsAfter_after S hst.k r)
      obtain ⟨M, hM⟩ : ∃ M, max S.l 1 = M := ⟨_, rfl⟩
      have hMi : max (S.l : Int) 1 = (M : Int) := by omega
      rw [hM] at hto hrest
      have HPA : Hid (putAll k.lc k.lp k.pb k.D LS a (st1, r1, (P1, st0)) = putAll k.lc k.lp k.pb k.D (LS.drop (i + 1)) (pl + M) (st', r', Z)) := Lib.hid (by
        rw [HL.out.2, hcons, hSi, ← hM]
        exact putAll_step hsym)
      have HRS : Hid (LS.drop (i + 1) = (symsOf k.D (k.dict : Nat) k.nice b (b - (pl + M)) (pl + M) r').1) := Lib.hid (by rw [hrest, hr2])
      have hM1 : 1 ≤ M ∧ M ≤ 100000 := by have := hst.short; have := HC.out.small; omega
      have hMb : (M : Int) ≤ 100000 := by omega
      have hplb2 : (pl : Int) ≤ 100000 := by have := HC.out.small; have := HAB.out.2; omega
      have hli : (S.l : Int) ≤ 273 := by have := hst.short; omega
      obtain ⟨X, hMS, hX⟩ := HI.out.ms
      have hsw : w8.heap.size ≤ wr.heap.size := HI.out.only.size
      have hw18 : WC.heap.size ≤ w8.heap.size := Nat.le_trans HB10.out.size HB8.out.size
      have hXge : ∀ j ∈ X, WC.heap.size ≤ j := fun j hj => by
        rcases hX j hj with h | h
        · have := HG8.out; have := HB10.out.size
          simp only [List.mem_cons, List.not_mem_nil, or_false] at h
          rcases h with rfl | rfl <;> omega
        · exact Nat.le_trans hw18 h
      have hgr : wr.heap[gS]? = wc.heap[gS]? := by
        refine (HI.out.only.block gS (Nat.lt_of_lt_of_le HGS.out.2 HB8.out.size) ?_).trans (HB8.out.block gS HGS.out.2)
        have := HG8.out; have := HGS.out; have := HCW.out
        simp only [List.mem_cons, List.not_mem_nil, or_false, not_or]; omega
      obtain ⟨q0, q1, q2, q3, q4⟩ := HSC.out i hlt wr hgr
      rw [hSi] at q0 q1 q2 q3 q4
      rw [Nat.mul_comm 5 i] at q0 q1 q2 q3 q4
      obtain ⟨W2, hW2⟩ : ∃ W2, wr.alloc (.cells #[.int .i64 (S.k : Nat), .int .u8 (S.b.toNat : Nat), .int .i64 (S.l : Nat), .int .i64 (S.d : Nat), .int .i64 (S.r : Nat)] 99) = W2 := ⟨_, rfl⟩
      have hrow2 : W2.heap[wr.heap.size]? = some (.cells (syCells [S]).toArray 99 (0, 0)) := by rw [← hW2]; exact heap_alloc_last _ _
      have hb2 : Below wr.heap.size wr W2 := by rw [← hW2]; exact (Below.refl _ _).alloc (Nat.le_refl _) _
      have hbw : Below WC.heap.size WC w8 := HB10.out.trans (HB8.out.mono HB10.out.size)
      have hprow : W2.heap[p]? = WC.heap[p]? := by
        refine (hb2.block p (Nat.lt_of_lt_of_le HPW.out (Nat.le_trans hw18 hsw))).trans ((HI.out.only.block p (Nat.lt_of_lt_of_le HPW.out hw18) ?_).trans (hbw.block p HPW.out))
        have := HG8.out; have := HPW.out; have := HB10.out.size; have := HPCL.out
        simp only [List.mem_cons, List.not_mem_nil, or_false, not_or]; omega
      have hP2 : PkAt W2 p k (PF C) had := HPX.out.keep hprow
      have hD2 : Bytes W2 k.A k.D := by
        have h1 : Below w0.heap.size w0 w8 := HBX.out.trans (hbw.mono HBX.out.size)
        have h2 : Below w0.heap.size w0 wr := h1.trans (HI.out.only.below h1.size (fun j hj => by
          have := HG8.out; have := HCGE.out; have := HBX.out.size; have := HB10.out.size
          simp only [List.mem_cons, List.not_mem_nil, or_false] at hj
          rcases hj with rfl | rfl | rfl | rfl <;> omega))
        exact HC.out.bytes.below (h2.trans (hb2.mono h2.size))
      have HPUT : Hid (∀ W, Below W2.heap.size W2 W → Calls Try.prog 49 #[PF C, PF g, .slice k.A pl k.cD, SyV (S.k : Nat) S.b (S.l : Nat) (S.d : Nat) (S.r : Nat)] W (MAnd (s'.k ≤ 2 ∧ s'.r ≤ 3 ∧ s'.l ≤ 273 ∧ (s'.d : Int) ≤ 4294967296 ∧ st' < 12 ∧ rGood r' ∧ (encIo g).ok Z.2 (54 * (b - (pl + M)) + 100)) (MDone (.int .i64 0) (encIo g) C L k.lc k.lp k.pb st' r' Z X W))) := Lib.hid (fun W hW => by
        have hMW : MS (encIo g) W C L k.lc k.lp k.pb st r x X := (hMS.below hb2).below hW
        have hDW : Bytes W k.A (k.D.take pl) := (hD2.below hW).take pl
        have h := put_yes hMW HC.out.lc HC.out.lp HC.out.pb HI.out.st HI.out.good (k := 54 * (b - (pl + M)) + 100) k.A (k.D.take pl) k.cD hDW (by rw [hTl]; have := HC.out.cap; have := HAB.out.2; omega) (by rw [hTl]; have := HC.out.small; have := HAB.out.2; omega) (fun a' ha' => by
          rw [HC.out.addr] at ha'; injection ha' with ha'; subst ha'
          have h1 := HC.out.blk; have h2 := HCGE.out; have h3 := HBX.out.size
          simp only [List.mem_cons, not_or]
          exact ⟨by omega, by omega, fun hj => by have := hXge _ hj; omega⟩) (S.k : Nat) S.b (S.l : Nat) (S.d : Nat) (S.r : Nat) (by rw [hTl]; exact hfit) hsym ((encIo g).le HI.out.ok (by omega))
        rw [hTl] at h
        exact h)
      have HXX := Lib.hid hX
      have HXG := Lib.hid hXge
      have HXL : Hid (∀ j ∈ X, j < wr.heap.size) := Lib.hid (fun j hj => (encIo g).lt hMS.io j hj)
      have HCLr : Hid (C < wr.heap.size ∧ L < wr.heap.size) := Lib.hid ⟨hMS.mod.clt, hMS.mod.llt⟩
      have HCEL : Hid (∀ W : World, W.heap[p]? = W2.heap[p]? → W.heap[wr.heap.size]? = W2.heap[wr.heap.size]? → W.cell? ⟨p, 0, none⟩ = some (.slice k.A k.D.length k.cD) ∧ W.cell? ⟨p, 11, none⟩ = some (PF C) ∧ W.cell? ⟨wr.heap.size, 0, none⟩ = some (.int .i64 (S.k : Nat)) ∧ W.cell? ⟨wr.heap.size, 1, none⟩ = some (.int .u8 (S.b.toNat : Nat)) ∧ W.cell? ⟨wr.heap.size, 2, none⟩ = some (.int .i64 (S.l : Nat)) ∧ W.cell? ⟨wr.heap.size, 3, none⟩ = some (.int .i64 (S.d : Nat)) ∧ W.cell? ⟨wr.heap.size, 4, none⟩ = some (.int .i64 (S.r : Nat))) := Lib.hid (fun W h1 h2 => by
        have hP := hP2.keep h1
        have hr := h2.trans hrow2
        exact ⟨hP.data, hP.cod, by rw [cell_of_row W _ _ _ _ _ hr]; rfl, by rw [cell_of_row W _ _ _ _ _ hr]; rfl, by rw [cell_of_row W _ _ _ _ _ hr]; rfl, by rw [cell_of_row W _ _ _ _ _ hr]; rfl, by rw [cell_of_row W _ _ _ _ _ hr]; rfl⟩)
      have HAFT : Hid (∀ w' : World, Went (encIo g) C L k.lc k.lp k.pb st' r' Z X W2.drew w' → w'.cell? ⟨p, 0, none⟩ = some (.slice k.A k.D.length k.cD) ∧ w'.cell? ⟨p, 11, none⟩ = some (PF C) ∧ w'.cell? ⟨wr.heap.size, 0, none⟩ = some (.int .i64 (S.k : Nat)) ∧ w'.cell? ⟨wr.heap.size, 1, none⟩ = some (.int .u8 (S.b.toNat : Nat)) ∧ w'.cell? ⟨wr.heap.size, 2, none⟩ = some (.int .i64 (S.l : Nat)) ∧ w'.cell? ⟨wr.heap.size, 3, none⟩ = some (.int .i64 (S.d : Nat)) ∧ w'.cell? ⟨wr.heap.size, 4, none⟩ = some (.int .i64 (S.r : Nat))) := Lib.hid (fun w' hw => by
        obtain ⟨X', _, hon, _⟩ := hw
        have hps : p < wr.heap.size := Nat.lt_of_lt_of_le HPW.out (Nat.le_trans hw18 hsw)
        refine HCEL.out w' (hon.block p (Nat.lt_of_lt_of_le hps hb2.size) ?_) (hon.block wr.heap.size (by show wr.heap.size < W2.heap.size; exact (Array.getElem?_eq_some_iff.1 hrow2).1) ?_)
        · have := HPCL.out; have h3 := HPW.out
          simp only [List.mem_cons, not_or]
          exact ⟨this.1, this.2, fun hj => by have := HXG.out _ hj; omega⟩
        · have := HCLr.out
          simp only [List.mem_cons, not_or]
          exact ⟨by omega, by omega, fun hj => by have := HXL.out _ hj; omega⟩)
      have HT := Lib.hid (And.intro hlt (And.intro hto hM1))
      have HB2 := Lib.hid hb2
      have HW2 := Lib.hid hW2
      have hpd : (pl : Int) ≤ (k.D.length : Int) := by have := HAB.out.2; omega
      have hpc : (pl : Int) ≤ (k.cD : Int) := by have := HAB.out.2; have := HC.out.cap; omega
      have hdc : (k.D.length : Int) ≤ (k.cD : Int) := by have := HC.out.cap; omega
      obtain ⟨p0, p11, b0, b1, b2, b3, b4⟩ := HCEL.out W2 rfl rfl
      clear hS hst hto hstep hdrop hcons hSi hrest hTl hfit hsym hr' hr2 hM hMS hX hsw hw18 hXge hgr hrow2 hb2 hbw hprow hP2 hD2 hW2 hlt hM1 hplb hi hplt
      go_upto_region 14 with fail
      rw [HW2.out]
      have hdr : Below W2.heap.size W2 W2.drew := ⟨rfl, rfl, rfl, Nat.le_refl _, fun _ _ => rfl⟩
      have hc0 := And.intro p0 (And.intro p11 (And.intro b0 (And.intro b1 (And.intro b2 (And.intro b3 b4)))))
      clear p0 p11 b0 b1 b2 b3 b4 q0 q1 q2 q3 q4
      refine wp_region_held_drew (S := fun w2 => w2.cell? ⟨p, 0, none⟩ = some (.slice k.A k.D.length k.cD) ∧ w2.cell? ⟨p, 11, none⟩ = some (PF C) ∧ w2.cell? ⟨wr.heap.size, 0, none⟩ = some (.int .i64 (S.k : Nat)) ∧ w2.cell? ⟨wr.heap.size, 1, none⟩ = some (.int .u8 (S.b.toNat : Nat)) ∧ w2.cell? ⟨wr.heap.size, 2, none⟩ = some (.int .i64 (S.l : Nat)) ∧ w2.cell? ⟨wr.heap.size, 3, none⟩ = some (.int .i64 (S.d : Nat)) ∧ w2.cell? ⟨wr.heap.size, 4, none⟩ = some (.int .i64 (S.r : Nat))) (by kernel_rfl) hc0 (fun hS => ?_)
      refine tk 0 (v := ?vtc53) ?ytc53 hS ?_
      case ytc53 =>
        intro w hSw
        go_simp; all_goals (with_reducible rfl)
      simp only [Act.put, List.setIfInBounds_toArray, List.set_cons_zero, List.set_cons_succ]
      refine tk 1 (v := ?vtc54) ?ytc54 hS ?_
      case ytc54 =>
        intro w hSw
        go_simp; all_goals (with_reducible rfl)
      simp only [Act.put, List.setIfInBounds_toArray, List.set_cons_zero, List.set_cons_succ]
      refine tk 2 (v := ?vtc55) ?ytc55 hS ?_
      case ytc55 =>
        intro w hSw
        go_simp; all_goals (with_reducible rfl)
      simp only [Act.put, List.setIfInBounds_toArray, List.set_cons_zero, List.set_cons_succ]
      refine tk 3 (v := ?vtc56) ?ytc56 hS ?_
      case ytc56 =>
        intro w hSw
        obtain ⟨q0, q11, q1, q2, q3, q4, q5⟩ := hSw
        go_simp; all_goals (with_reducible rfl)
      simp only [Act.put, List.setIfInBounds_toArray, List.set_cons_zero, List.set_cons_succ]
      refine tk 4 (v := ?vtc57) ?ytc57 hS ?_
      case ytc57 =>
        intro w hSw
        go_simp; all_goals (with_reducible rfl)
      simp only [Act.put, List.setIfInBounds_toArray, List.set_cons_zero, List.set_cons_succ]
      refine tk 5 (v := ?vtc58) ?ytc58 hS ?_
      case ytc58 =>
        intro w hSw
        go_simp; all_goals (with_reducible rfl)
      simp only [Act.put, List.setIfInBounds_toArray, List.set_cons_zero, List.set_cons_succ]
      refine tk 6 (v := ?vtc59) ?ytc59 hS ?_
      case ytc59 =>
        intro w hSw
        go_simp; all_goals (with_reducible rfl)
      simp only [Act.put, List.setIfInBounds_toArray, List.set_cons_zero, List.set_cons_succ]
      refine tk 7 (v := ?vtc60) ?ytc60 hS ?_
      case ytc60 =>
        intro w hSw
        go_simp; all_goals (with_reducible rfl)
      simp only [Act.put, List.setIfInBounds_toArray, List.set_cons_zero, List.set_cons_succ]
      refine tk 8 (v := ?vtc61) ?ytc61 hS ?_
      case ytc61 =>
        intro w hSw
        obtain ⟨q0, q11, q1, q2, q3, q4, q5⟩ := hSw
        go_simp; all_goals (with_reducible rfl)
      simp only [Act.put, List.setIfInBounds_toArray, List.set_cons_zero, List.set_cons_succ]
      refine tk 9 (v := ?vtc62) ?ytc62 hS ?_
      case ytc62 =>
        intro w hSw
        go_simp; all_goals (with_reducible rfl)
      simp only [Act.put, List.setIfInBounds_toArray, List.set_cons_zero, List.set_cons_succ]
      refine tk 10 (v := ?vtc63) ?ytc63 hS ?_
      case ytc63 =>
        intro w hSw
        go_simp; all_goals (with_reducible rfl)
      simp only [Act.put, List.setIfInBounds_toArray, List.set_cons_zero, List.set_cons_succ]
      refine tk 11 (v := ?vtc64) ?ytc64 hS ?_
      case ytc64 =>
        intro w hSw
        obtain ⟨q0, q11, q1, q2, q3, q4, q5⟩ := hSw
        go_simp; all_goals (with_reducible rfl)
      simp only [Act.put, List.setIfInBounds_toArray, List.set_cons_zero, List.set_cons_succ]
      refine wpAnyH_ready (rs := [12]) (by kernel_rfl) (by simp) ?_
      refine (AllReadyH.cons (o := { dst := some 92, op := Op.call { callee := Callee.value (Operand.func 49), args := #[Operand.tmp 83, Operand.tmp 84, Operand.tmp 90, Operand.tmp 91], argTypes := #[41, 130, 22, 99] }, type := 24, pos := "chunks.go:128", after := #[{ on := 3, ground := Ground.data }, { on := 4, ground := Ground.data }, { on := 10, ground := Ground.data }, { on := 11, ground := Ground.data }], guard := none }) rfl (fun K hK => ?_) AllReadyH.nil)
      go_simp
      refine (HPUT.out _ hdr).mono ?_
      rintro e x12 ⟨⟨rfl, hwent⟩, hQ⟩
      have HWE := Lib.hid hwent
      have HQQ := Lib.hid hQ
      clear hwent hQ
      have g12 := HAFT.out _ HWE.out
      go_wp2_with fail
      refine hK.out _ _ g12 (fun _ => ?_)
      clear hK K
      refine tk 13 (v := ?vtc65) ?ytc65 g12 ?_
      case ytc65 =>
        intro w hSw
        go_simp; all_goals (with_reducible rfl)
      simp only [Act.put, List.setIfInBounds_toArray, List.set_cons_zero, List.set_cons_succ]
      refine wpAnyH_done (by kernel_rfl) ?_ _

      obtain ⟨_, _, _, _, b2, _, _⟩ := HAFT.out x12 HWE.out
      have HI2 : Hid (TryI k C L g [g, o] w8 x12 st' r' Z (54 * (b - (pl + M)) + 100)) := Lib.hid (by
        have hb2d : Below wr.heap.size wr W2.drew := HB2.out.trans (hdr.mono HB2.out.size)
        exact TryI.put HXX.out HI.out.only hb2d HWE.out HQQ.out.2.2.2.2.1 HQQ.out.2.2.2.2.2.1 HQQ.out.2.2.2.2.2.2)
      have HT2 : Hid (i + 1 ≤ LS.length ∧ pl + M ≤ b) := Lib.hid ⟨by have := HT.out.1; omega, by have := HT.out.2.1; omega⟩
      have e1 : Hid ((pl : Int) + (M : Int) = ((pl + M : Nat) : Int)) := Lib.hid (by omega)
      have e2 : Hid ((i : Int) + 1 = ((i + 1 : Nat) : Int)) := Lib.hid (by omega)
      clear hS g12 hdr hc0 HCEL HAFT
      go_wp2_with fail
      go_roundw
      case rel => exact ⟨i + 1, pl + M, st', r', Z, by rw [← e1.out], by rw [← e2.out], HI2, Lib.hid ⟨HRS.out, HPA.out⟩, HT2.out.1, HT2.out.2⟩
      case measure => have := HT.out.1; simp [intOf]; omega
end Go.Proofs.Ytkckjjchfccdjaa
