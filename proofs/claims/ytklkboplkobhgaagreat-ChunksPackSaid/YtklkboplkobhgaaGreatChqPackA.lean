/- Several texts in one: ChqCo, ChqPack. -/
import Derived.Test.YtklkboplkobhgaaGreatChqTried
import Derived.Test.YtklkboplkobhgaaGreatChqMayF
import Derived.Test.YtklkboplkobhgaaGreatChkPackG
import Derived.Test.YtklkboplkobhgaaGreatCoAll
/- The reference's chunks: between two parts. -/
namespace Go.Proofs.YtklkboplkobhgaaGreat
set_option maxRecDepth 100000
open Go.RowKit

theorem RCo.rows {w : World} {C base N : Nat} {lc lp pb st : Int} {r : R4} {P : Nat → Nat} {Y : List Nat} (h : RCo w C base N lc lp pb st r P Y) : ∀ j ∈ Y, ∃ cs t x, w.heap[j]? = some (.cells cs t x) ∧ t ≠ 5 := by
  obtain ⟨Pl, vR, gR, gP, capP, h1, h2, h3, h4, rfl⟩ := h.ex
  intro j hj
  simp only [List.mem_cons, List.not_mem_nil, or_false] at hj
  rcases hj with rfl | rfl | rfl
  · exact ⟨_, _, _, h1.box, by decide⟩
  · obtain ⟨cs, x, hc⟩ := h1.reps.rowT h2; exact ⟨_, _, _, hc, by decide⟩
  · obtain ⟨cs, x, hc⟩ := h1.ps.rowT rfl; exact ⟨_, _, _, hc, by decide⟩
theorem RCo.out {w : World} {C base N : Nat} {lc lp pb st : Int} {r : R4} {P : Nat → Nat} {Y : List Nat} (h : RCo w C base N lc lp pb st r P Y) {b2 : Nat} {v : Value} {l : List UInt8} (ho : Own b2 w v l) : ∀ g, v.ownBlock = some g → g ∉ Y := fun g hg hy => by
  obtain ⟨cs, t, x, hc, ht⟩ := h.rows g hy
  exact ho.ne hc ht hg
theorem RCo.grown {w w' : World} {C base N : Nat} {lc lp pb st : Int} {r : R4} {P : Nat → Nat} {Y : List Nat} (h : RCo w C base N lc lp pb st r P Y) {v : Value} (hg : w.grownBy w' v.ownBlock) (hn : ∀ g, v.ownBlock = some g → g ∉ Y) : RCo w' C base N lc lp pb st r P Y := by
  obtain ⟨Pl, vR, gR, gP, capP, h1, h2, h3, h4, rfl⟩ := h.ex
  refine ⟨⟨Pl, vR, gR, gP, capP, ⟨(hg.block C (Array.getElem?_eq_some_iff.1 h1.box).1 (fun e => hn C e.symm (by simp))).trans h1.box, h1.reps.grown hg (fun g e1 e2 => hn g e2 ?_), h1.ps.grown hg (fun g e1 e2 => hn g e2 ?_)⟩, h2, h3, h4, rfl⟩, h.fair⟩
  · rw [h2] at e1; injection e1 with e1; subst e1; simp
  · have e1 : gP = g := by simpa [Value.ownBlock] using e1
    subst e1; simp
theorem rco_new {w0 w : World} {C lc lp pb : Nat} {vR vP : Value} (hC : CodAt w C w0.heap.size lc lp pb 0 (1, 1, 1, 1) (List.replicate (2180 + 768 * 2 ^ (lc + lp)) 1024) vR vP) (hb : w0.heap.size ≤ C) :
    ∃ Y, RCo w C w0.heap.size (2180 + 768 * 2 ^ (lc + lp)) (lc : Nat) (lp : Nat) (pb : Nat) ((0 : Nat) : Int) (1, 1, 1, 1) (fun _ => 1024) Y ∧ ∀ i ∈ Y, w0.heap.size ≤ i := by
  obtain ⟨gR, capR, eR, hgR, _⟩ := hC.reps.some_of_pos (show 0 < 4 by decide)
  have hlen : ((List.replicate (2180 + 768 * 2 ^ (lc + lp)) 1024).map fun x : Nat => Value.int .u16 (x : Nat)).length = 2180 + 768 * 2 ^ (lc + lp) := by simp
  obtain ⟨gP, capP, eP, hgP, _⟩ := hC.ps.some_of_pos (by rw [hlen]; omega)
  rw [hlen] at eP
  subst eP
  refine ⟨[C, gR, gP], ⟨⟨_, vR, gR, gP, capP, hC, by rw [eR]; rfl, by simp, fun i hi => ?_, rfl⟩, fun i => ⟨show 1 ≤ 1024 by decide, show 1024 ≤ 2047 by decide⟩⟩, ?_⟩
  · rw [List.getElem?_replicate, if_pos hi]
  · intro i hi
    simp only [List.mem_cons, List.not_mem_nil, or_false] at hi
    rcases hi with rfl | rfl | rfl <;> assumption
/-- The options' box. -/
def PqBox (k : PkS) (w wr : World) : Prop := wr.heap[w.heap.size]? = some (.cells (optRow (k.lc : Nat) (k.lp : Nat) (k.pb : Nat) k.nice k.chunk k.block k.check k.chain k.dict).toArray 26 (0, 0))
/-- Between two parts: the worlds. -/
structure PqW (k : PkS) (N : Nat) (w wr : World) (C base : Nat) (st : Nat) (r : R4) (P : Nat → Nat) (Y : List Nat) (v : Value) (L : List UInt8) : Prop where
  opt : PqBox k w wr
  cod : RCo wr C base N (k.lc : Nat) (k.lp : Nat) (k.pb : Nat) (st : Nat) r P Y
  off : ∀ i ∈ Y, w.heap.size + 1 ≤ i
  base : base ≤ wr.heap.size
  st : st < 12
  good : rGood r
  own : Own (w.heap.size + 1) wr v L
  below : Below w.heap.size w wr
theorem PqW.lt {k : PkS} {N : Nat} {w wr : World} {C base st : Nat} {r : R4} {P : Nat → Nat} {Y : List Nat} {v : Value} {L : List UInt8} (h : PqW k N w wr C base st r P Y v L) : w.heap.size + 1 ≤ wr.heap.size := (Array.getElem?_eq_some_iff.1 h.opt).1
theorem PqW.step {k : PkS} {N : Nat} {w wr w2 : World} {C base st : Nat} {r : R4} {P : Nat → Nat} {Y : List Nat} {v : Value} {L : List UInt8} (h : PqW k N w wr C base st r P Y v L) {C2 base2 st2 : Nat} {r2 : R4} {P2 : Nat → Nat} {Y2 : List Nat} (hon : Only Y wr w2) (hc : RCo w2 C2 base2 N (k.lc : Nat) (k.lp : Nat) (k.pb : Nat) (st2 : Nat) r2 P2 Y2) (hY : ∀ i ∈ Y2, i ∈ Y ∨ wr.heap.size ≤ i) (hb : base2 ≤ w2.heap.size) (hs : st2 < 12) (hg : rGood r2) : PqW k N w w2 C2 base2 st2 r2 P2 Y2 v L := by
  have hlt := h.lt
  refine ⟨(hon.block _ hlt (fun hi => by have := h.off _ hi; omega)).trans h.opt, hc, fun i hi => ?_, hb, hs, hg, h.own.keepB (fun g hg' => hon.block g (h.own.from_base g hg').2 (h.cod.out h.own g hg')), h.below.trans (hon.below h.below.size (fun i hi => by have := h.off i hi; omega))⟩
  rcases hY i hi with h1 | h1
  · exact h.off i h1
  · omega
theorem PqW.next {k : PkS} {N : Nat} {w wr w2 : World} {C base st : Nat} {r : R4} {P : Nat → Nat} {Y : List Nat} {v : Value} {L : List UInt8} (h : PqW k N w wr C base st r P Y v L) (hb : Below wr.heap.size wr w2) : PqW k N w w2 C base st r P Y v L := by
  have hlt := h.lt
  exact ⟨(hb.block _ hlt).trans h.opt, h.cod.below hb, h.off, Nat.le_trans h.base hb.size, h.st, h.good, h.own.below hb, h.below.trans (hb.mono (by omega))⟩
theorem PqW.grow {k : PkS} {N : Nat} {w wr w2 : World} {C base st : Nat} {r : R4} {P : Nat → Nat} {Y : List Nat} {v v2 : Value} {L L2 : List UInt8} (h : PqW k N w wr C base st r P Y v L) (hg : wr.grownBy w2 v.ownBlock) (ho : Own (w.heap.size + 1) w2 v2 L2) : PqW k N w w2 C base st r P Y v2 L2 := by
  have hlt := h.lt
  refine ⟨(hg.block _ hlt (fun e => h.own.ne h.opt (by decide) e.symm)).trans h.opt, h.cod.grown hg (h.cod.out h.own), h.off, Nat.le_trans h.base hg.size, h.st, h.good, ho, below_grown h.below hg h.below.size (fun g e => ?_)⟩
  have := (h.own.from_base g e).1; omega
/-- Between two parts: what is left. -/
structure PqL (k : PkS) (c a : Nat) (told bh : Bool) (s : CodS) (z : Nat × R4 × (Nat → Nat)) (L : List UInt8) : Prop where
  len : L.length ≤ 4 * min a k.D.length
  go : (packGo k (partsL k.D.length c 0) (none, false)).1 = L ++ (packGo k (partsL k.D.length c a) (s, told)).1
  is : bh = false → z = codOf s
  no : bh = true → s = none
  yes : bh = false → 0 < a → s.isSome = true
theorem PqL.ctl {k : PkS} {c a : Nat} {told bh : Bool} {s : CodS} {z : Nat × R4 × (Nat → Nat)} {L : List UInt8} (h : PqL k c a told bh s z L) : (if a = 0 then 224 else if told = true then (if bh = true then 160 else 128) else 192) = ctlB a told s := by
  unfold ctlB
  by_cases ha : a = 0
  · rw [if_pos ha, if_pos ha]
  · rw [if_neg ha, if_neg ha]
    cases told with
    | false => rfl
    | true =>
      cases bh with
      | true => rw [h.no rfl]; rfl
      | false =>
        have h1 := h.yes rfl (by omega)
        cases s with
        | none => cases h1
        | some s => rfl
theorem PqL.next {k : PkS} {c a b : Nat} {told bh : Bool} {s : CodS} {z : Nat × R4 × (Nat → Nat)} {L : List UInt8} (h : PqL k c a told bh s z L) (hc : 1 ≤ c) (ha : a < k.D.length) (hb : min (a + c) k.D.length = b) {R : List UInt8} {s2 : CodS} {told2 bh2 : Bool} {z2 : Nat × R4 × (Nat → Nat)} (hR : chunkOf k a b s told = (R, s2, told2)) (h1 : bh2 = false → z2 = codOf s2) (h2 : bh2 = true → s2 = none) (h3 : bh2 = false → s2.isSome = true) : PqL k c (a + c) told2 bh2 s2 z2 (L ++ R) := by
  have hl := chunkOf_len (k := k) (a := a) (b := b) (s := s) (had := told) (by omega) (by omega)
  rw [hR] at hl
  have hl : R.length ≤ b - a + 3 := hl
  have h4 := h.len
  refine ⟨by rw [List.length_append]; omega, ?_, h1, h2, fun e _ => h3 e⟩
  rw [h.go, partsL_step hc ha, hb]
  show L ++ ((chunkOf k a b s told).1 ++ (packGo k (partsL k.D.length c (a + c)) (chunkOf k a b s told).2).1) = _
  rw [hR, List.append_assoc]
theorem PqL.start (k : PkS) (c : Nat) : PqL k c 0 false false none newCod [] := ⟨Nat.zero_le _, by rw [List.nil_append], fun _ => rfl, (fun h => Bool.noConfusion h), fun _ h => absurd h (by decide)⟩
end Go.Proofs.YtklkboplkobhgaaGreat

/- The reference's chunks: Pack, of options that are fine. -/
namespace Go.Proofs.YtklkboplkobhgaaGreat
set_option maxRecDepth 100000
open Go.RowKit

def NewQ (k : PkS) (N : Nat) (w : World) (e : Ending) (w' : World) : Prop := ∃ C Y, e = .returned (PF C) ∧ RCo w' C w.heap.size N (k.lc : Nat) (k.lp : Nat) (k.pb : Nat) ((0 : Nat) : Int) (1, 1, 1, 1) (fun _ => 1024) Y ∧ (∀ i ∈ Y, w.heap.size ≤ i) ∧ Below w.heap.size w w'
set_option maxRecDepth 100000 in
set_option maxHeartbeats 16000000 in
theorem rpack_good (k : PkS) (o : Value) (w : World) (ho : PkO k o) (hB : Bytes w k.A k.D) (hA : ∀ a, k.A = some a → a.block < w.heap.size) (hc : k.D.length ≤ k.cD) (hl : k.D.length ≤ 100000) :
    Calls Tryz.prog 8 #[.slice k.A k.D.length k.cD, o] w (GivesB w (packB k)) := by
  rw [ho.val]
  obtain ⟨N, hN⟩ : ∃ N, 2180 + 768 * 2 ^ (k.lc + k.lp) = N := ⟨_, rfl⟩
  have HN : Hid (N = 2180 + 768 * 2 ^ (k.lc + k.lp) ∧ N ≤ 1000000) := Lib.hid ⟨hN.symm, by
    rw [← hN]
    have : 2 ^ (k.lc + k.lp) ≤ 2 ^ 4 := Nat.pow_le_pow_right (by omega) ho.lclp
    omega⟩
  have HNEW : Hid (∀ w' : World, Calls Tryz.prog 16 #[.int .i64 (k.lc : Nat), .int .i64 (k.lp : Nat), .int .i64 (k.pb : Nat)] w' (NewQ k N w')) := Lib.hid (fun w' => by
    refine (newC_any k.lc k.lp k.pb (by have := ho.lclp; omega) w').mono ?_
    rintro e w2 ⟨C, vR, vP, rfl, hC, hb, hCb⟩
    obtain ⟨Y, h1, h2⟩ := rco_new hC hCb
    rw [hN] at h1
    exact ⟨C, Y, rfl, h1, h2, hb⟩)
  obtain ⟨W, hW⟩ : ∃ W, w.alloc (.cells #[.int .i64 (k.lc : Nat), .int .i64 (k.lp : Nat), .int .i64 (k.pb : Nat), .int .i64 k.nice, .int .i64 k.chunk, .int .i64 k.block, .int .i64 k.check, k.chain, .int .u32 (k.dict : Nat)] 26) = W := ⟨_, rfl⟩
  obtain ⟨hrow, hbW⟩ := optBox (vs := optRow (k.lc : Nat) (k.lp : Nat) (k.pb : Nat) k.nice k.chunk k.block k.check k.chain k.dict) hW
  have HCE : Hid (∀ W' : World, PqBox k w W' → W'.cell? ⟨w.heap.size, 0, none⟩ = some (.int .i64 (k.lc : Nat)) ∧ W'.cell? ⟨w.heap.size, 1, none⟩ = some (.int .i64 (k.lp : Nat)) ∧ W'.cell? ⟨w.heap.size, 2, none⟩ = some (.int .i64 (k.pb : Nat)) ∧ W'.cell? ⟨w.heap.size, 3, none⟩ = some (.int .i64 k.nice) ∧ W'.cell? ⟨w.heap.size, 4, none⟩ = some (.int .i64 k.chunk) ∧ W'.cell? ⟨w.heap.size, 5, none⟩ = some (.int .i64 k.block) ∧ W'.cell? ⟨w.heap.size, 6, none⟩ = some (.int .i64 k.check) ∧ W'.cell? ⟨w.heap.size, 7, none⟩ = some k.chain ∧ W'.cell? ⟨w.heap.size, 8, none⟩ = some (.int .u32 (k.dict : Nat))) := Lib.hid (fun W' r => by
    refine ⟨?_, ?_, ?_, ?_, ?_, ?_, ?_, ?_, ?_⟩ <;> (rw [cell_of_row W' _ _ _ _ _ r]; rfl))
  obtain ⟨y0, y1, y2, y3, y4, y5, y6, y7, y8⟩ := HCE.out W hrow
  have HW := Lib.hid hW
  have HBW := Lib.hid hbW
  have HROW := Lib.hid hrow
  have HBY := Lib.hid (And.intro hB (And.intro hA (And.intro hc hl)))
  have HO := Lib.hid ho
  have HCH := Lib.hid ho.chunk
  have hch1 : 1 ≤ k.chunk := ho.chunk.1
  have hch2 : k.chunk ≤ 65536 := ho.chunk.2
  have hdl : (k.D.length : Int) ≤ 100000 := by omega
  have hlci : (k.lc : Int) ≤ 4 := by have := ho.lc; omega
  have hlpi : (k.lp : Int) ≤ 4 := by have := ho.lp; omega
  have hpbi : (k.pb : Int) ≤ 4 := by have := ho.pb; omega
  clear hN hW hbW hrow hB hA hc hl ho
  go_enter Tryz.func8, Tryz.ntmps8
  go_upto_region 1 with fail
  rw [HW.out]
  go_wp2_with fail
  refine (HNEW.out _).mono ?_
  rintro e x1 ⟨C0, Y0, rfl, hc0, hY0, hb0⟩
  have HQ0 : Hid (PqW k N w x1 C0 W.heap.size 0 (1, 1, 1, 1) (fun _ => 1024) Y0 (.slice none 0 0) []) := Lib.hid (by
    have hs := (Array.getElem?_eq_some_iff.1 HROW.out).1
    exact ⟨(hb0.block _ hs).trans HROW.out, hc0, fun i hi => by have := hY0 i hi; omega, hb0.size, by decide, by unfold rGood; decide, Own.nil _ _, HBW.out.trans (hb0.mono HBW.out.size)⟩)
  clear hc0 hY0 hb0 y0 y1 y2 y3 y4 y5 y6 y7 y8
  go_wp2_with fail
  go_loopw [5, 6, 7, 8, 9] (fun s5 s6 s7 s8 s9 wr => ∃ (a : Nat) (told bh : Bool) (s : CodS) (st : Nat) (r : R4) (P : Nat → Nat) (C base : Nat) (Y : List Nat) (L : List UInt8), s6 = PF C ∧ s7 = .bool told ∧ s8 = .bool bh ∧ s9 = .int .i64 (a : Nat) ∧ Hid (PqW k N w wr C base st r P Y s5 L) ∧ Hid (PqL k k.chunk.toNat a told bh s (st, r, P) L)) (fun _ _ _ _ s9 _ => k.D.length - (intOf s9).toNat)
  case atStart => exact ⟨0, false, false, none, 0, (1, 1, 1, 1), fun _ => 1024, C0, _, Y0, [], rfl, rfl, rfl, rfl, HQ0, Lib.hid (PqL.start k _)⟩
  case round =>
    obtain ⟨a, told, bh, s, st, r, P, C, base, Y, L, rfl, rfl, rfl, rfl, HQ, HL⟩ := hrel
    by_cases hlt : a < k.D.length
    case neg =>
      have hlti : ¬ (a : Int) < (k.D.length : Int) := by omega
      have HPB : Hid (packB k = L ++ [0]) := Lib.hid (by unfold packB; rw [HL.out.go, partsL_end hlt]; simp [packGo])
      have HLL : Hid (L.length + 1 ≤ 140737488355328) := Lib.hid (by have := HL.out.len; have := HBY.out.2.2.2; omega)
      obtain ⟨W5, hW5⟩ : ∃ W5, wr.alloc (.cells #[.int .u8 0] 5) = W5 := ⟨_, rfl⟩
      have hb5 : Below wr.heap.size wr W5 := by rw [← hW5]; exact (Below.refl _ _).alloc (Nat.le_refl _) _
      have HX5 : Hid (Bytes W5 (some ⟨wr.heap.size, 0, none⟩) [0]) := Lib.hid (by rw [← hW5]; exact Bytes.one wr 0)
      have HQ5 := Lib.hid (HQ.out.next hb5)
      have HW5 := Lib.hid hW5
      clear hlt hW5 hb5
      go_wp2_with (at_builtin; rw [HW5.out]; refine wpList_append_bytes ?_ (.tmp 123) (.tmp 124) ?_ (w.heap.size + 1) W5 u5 L ?_ HQ5.out.own (some ⟨wr.heap.size, 0, none⟩) [0] 1 ?_ HX5.out HLL.out HQ5.out.lt ?_; rfl; rfl; rfl; rfl; intro v6 w6 ho6 hg6; have HO6 := Lib.hid ho6; have HG6 := Lib.hid hg6; clear ho6 hg6)
      go_ret
      rw [HPB.out]
      exact ⟨v6, rfl, HO6.out.weaken (Nat.le_succ _), below_grown HQ5.out.below HG6.out HQ5.out.below.size (fun g e => by have := (HQ5.out.own.from_base g e).1; omega)⟩
    case pos =>
      have hlti : (a : Int) < (k.D.length : Int) := by omega
      obtain ⟨b, hb⟩ : ∃ b, min (a + k.chunk.toNat) k.D.length = b := ⟨_, rfl⟩
      have HBD := Lib.hid hb
      have HAD := Lib.hid hlt
      have HAB : Hid (a < b ∧ b ≤ k.D.length) := Lib.hid (by have := HCH.out; omega)
      have hai : (a : Int) < (b : Int) := by have := HAB.out; omega
      have hbi : (b : Int) ≤ (k.D.length : Int) := by have := HAB.out; omega
      have hci : (k.D.length : Int) ≤ (k.cD : Int) := by have := HBY.out.2.2.1; omega
      obtain ⟨y0, y1, y2, y3, y4, y5, y6, y7, y8⟩ := HCE.out wr HQ.out.opt
      clear hb hlt
      go_upto_if 36 with fail
      go_cut [10] from 37 to 122 (fun s10 wx => s10 = .int .i64 (b : Nat) ∧ wr = wx)
      case first =>
        by_cases hgt : (k.D.length : Int) < (a : Int) + k.chunk
        · go_wp2_with fail
          go_meet
          exact ⟨by congr 1; have := HBD.out; omega, rfl⟩
        · go_wp2_with fail
          go_meet
          exact ⟨by congr 1; have := HBD.out; omega, rfl⟩
      case rest =>
      obtain ⟨rfl, rfl⟩ := hcut
      go_upto_if 39 with fail
      go_cut [6] from 40 to 122 (fun s6 wx => ∃ C2 base2 Y2, s6 = PF C2 ∧ PqW k N w wx C2 base2 (codOf s).1 (codOf s).2.1 (codOf s).2.2 Y2 u5 L)
      case first =>
        cases bh with
        | true =>
          go_wp2_with fail
          refine (HNEW.out _).mono ?_
          rintro e w1 ⟨C2, Y2, rfl, hc2, hY2, hb2⟩
          have HQ1 : Hid (PqW k N w w1 C2 wr.heap.size (codOf s).1 (codOf s).2.1 (codOf s).2.2 Y2 u5 L) := Lib.hid (by
            rw [HL.out.no rfl]
            exact HQ.out.step (Only.of_below hb2) hc2 (fun i hi => .inr (hY2 i hi)) hb2.size (show 0 < 12 by decide) (show rGood (1, 1, 1, 1) by unfold rGood; decide))
          clear hc2 hY2 hb2
          go_wp2_with fail
          go_meet
          exact ⟨C2, _, Y2, rfl, HQ1.out⟩
        | false =>
          go_wp2_with fail
          go_meet
          exact ⟨C, base, Y, rfl, by rw [← HL.out.is rfl]; exact HQ.out⟩
      case rest =>
      obtain ⟨C2, base2, Y2, rfl, hq2⟩ := hcut
      obtain ⟨⟨st1, r1, P1⟩, hcd⟩ : ∃ z, codOf s = z := ⟨_, rfl⟩
      rw [hcd] at hq2
      have hq2 : PqW k N w wc C2 base2 st1 r1 P1 Y2 u5 L := hq2
      have hTR := rtried_any k C2 base2 N st1 r1 P1 Y2 a b wc (HBY.out.1.below hq2.below) (fun q hq => ⟨fun hy => by have := hq2.off _ hy; have := HBY.out.2.1 q hq; omega, by have := HBY.out.2.1 q hq; have := hq2.lt; omega⟩) HBY.out.2.2.1 HBY.out.2.2.2 ⟨by have := HO.out.dict; omega, HO.out.dict.2⟩ HO.out.nice.2 HO.out.lc HO.out.lp HO.out.pb hq2.cod hq2.st hq2.good HN.out.1 HN.out.2 hq2.base HAB.out.1 HAB.out.2
      obtain ⟨⟨R, st2, r2, P2⟩, hR⟩ : ∃ r, codeOf k a b (st1, r1, P1) = r := ⟨_, rfl⟩
      obtain ⟨x, hx⟩ : ∃ x, ctlB a told s = x := ⟨_, rfl⟩
      obtain ⟨T1, hT1⟩ : ∃ T, twoB (b - a - 1) = T := ⟨_, rfl⟩
      obtain ⟨T2, hT2⟩ : ∃ T, twoB (R.length - 1) = T := ⟨_, rfl⟩
      obtain ⟨PP, hP⟩ : ∃ P, (if 192 ≤ x then [propB k] else []) = P := ⟨_, rfl⟩
      obtain ⟨O, hO⟩ : ∃ O, ((([x] ++ T1) ++ T2) ++ PP) ++ R = O := ⟨_, rfl⟩
      rw [hR] at hTR
      have hpk : packedOf k a b s told R = O := by unfold packedOf; rw [hx, hT1, hT2, hP, hO]
      have HRES : Hid (chunkOf k a b s told = if b - a + 3 ≤ O.length ∨ 65536 < R.length then (storeOf k.D a b, none, told) else (O, some (st2, r2, P2), true)) := Lib.hid (by unfold chunkOf; rw [hcd, hR]; show (if b - a + 3 ≤ (packedOf k a b s told R).length ∨ _ then _ else _) = _; rw [hpk])
      have HTW1 := Lib.hid (fun W => rtwo_any (b - a - 1) (by have := HBY.out.2.2.2; have := HAB.out; omega) W)
      have HTW2 : Hid (5 ≤ R.length → R.length + 100 ≤ 140737488355328 → ∀ W, Calls Tryz.prog 18 #[.int .i64 ((R.length : Int) - 1)] W (GivesB W T2)) := Lib.hid (fun h1 h2 W => by
        have h := rtwo_any (R.length - 1) (by omega) W
        rw [show ((R.length - 1 : Nat) : Int) = (R.length : Int) - 1 by omega, hT2] at h
        exact h)
      rw [show ((b - a - 1 : Nat) : Int) = (b : Int) - (a : Int) - 1 by omega, hT1] at HTW1
      have HT1 : Hid (T1.length = 2) := Lib.hid (by rw [← hT1]; rfl)
      have HT1E := Lib.hid hT1
      have HT2 : Hid (T2.length = 2) := Lib.hid (by rw [← hT2]; rfl)
      have HPP : Hid (PP.length ≤ 1) := Lib.hid (by rw [← hP]; split <;> simp)
      have HP := Lib.hid hP
      have HX := Lib.hid hx
      obtain ⟨q, hq⟩ : ∃ q, decide ((192 : Int) ≤ (x.toNat : Int)) = q := ⟨_, rfl⟩
      have HQX : Hid (q = true ↔ 192 ≤ x) := Lib.hid (by
        rw [← hq, decide_eq_true_iff, UInt8.le_iff_toNat_le]
        show _ ↔ 192 ≤ x.toNat
        omega)
      have HOE := Lib.hid hO
      have HTR := Lib.hid hTR
      have HQ2 := Lib.hid hq2
      obtain ⟨bD, oD, hAD, _, _⟩ := HBY.out.1.addr (by have := HAD.out; omega)
      obtain ⟨TT, hTT⟩ : ∃ T, (k.D.drop a).take (b - a) = T := ⟨_, rfl⟩
      have HTT : Hid ((k.D.drop a).take (b - a) = TT ∧ TT.length = b - a ∧ Bytes w (some ⟨bD, oD + a, none⟩) TT) := Lib.hid ⟨hTT, by rw [← hTT, List.length_take, List.length_drop]; have := HAB.out; omega, by
        rw [← hTT]
        have h := HBY.out.1
        rw [hAD] at h
        exact (h.drop a).take _⟩
      rw [hAD] at HTR
      rw [hAD]
      have HADR := Lib.hid hAD
      obtain ⟨y0, y1, y2, y3, y4, y5, y6, y7, y8⟩ := HCE.out wc hq2.opt
      clear hcd hq2 hTR hR hx hT1 hT2 hP hO hpk hAD hTT
      go_wp2_with fail
      refine HTR.out.mono ?_
      rintro e w2 ⟨v2, Y3, rfl, ho2, hco2, hst2, hgd2, hon2, hY3, hR5, hRm⟩
      simp only at ho2 hco2 hst2 hgd2 hR5 hRm
      obtain ⟨AR, cR, rfl, _, _, hBR⟩ := ho2.read
      have hRi : (R.length : Int) ≤ 140737488355328 := by omega
      have HR5 := Lib.hid (And.intro hR5 hRm)
      have HBR := Lib.hid hBR
      have HQ3 := Lib.hid (HQ2.out.step hon2 hco2 hY3 (Nat.le_trans HQ2.out.base hon2.size) hst2 hgd2)
      clear ho2 hco2 hst2 hgd2 hon2 hY3 hR5 hRm hBR HTR y0 y1 y2 y3 y4 y5 y6 y7 y8
      go_upto_if 53 with fail
      go_cut [12] from 54 to 122 (fun s12 wx => s12 = B8 (if bh = true then 160 else 128) ∧ w2 = wx)
      case first =>
        cases bh with
        | true =>
          go_wp2_with fail
          go_meet
          exact ⟨rfl, rfl⟩
        | false =>
          go_wp2_with fail
          go_meet
          exact ⟨rfl, rfl⟩
      case rest =>
      obtain ⟨rfl, rfl⟩ := hcut
      obtain ⟨n1, hn1⟩ : ∃ z : UInt8, (if bh = true then 160 else 128) = z := ⟨_, rfl⟩
      rw [hn1]
      have HN1 := Lib.hid hn1
      clear hn1
      go_upto_if 55 with fail
      go_cut [12] from 56 to 122 (fun s12 wx => s12 = B8 (if told = true then n1 else 192) ∧ w2 = wx)
      case first =>
        cases told with
        | true =>
          go_wp2_with fail
          go_meet
          exact ⟨rfl, rfl⟩
        | false =>
          go_wp2_with fail
          go_meet
          exact ⟨rfl, rfl⟩
      case rest =>
      obtain ⟨rfl, rfl⟩ := hcut
      obtain ⟨n2, hn2⟩ : ∃ z : UInt8, (if told = true then n1 else 192) = z := ⟨_, rfl⟩
      rw [hn2]
      have HN2 : Hid ((if told = true then (if bh = true then 160 else 128) else 192) = n2) := Lib.hid (by rw [HN1.out]; exact hn2)
      clear hn2
      go_upto_if 57 with fail
      go_cut [12] from 58 to 122 (fun s12 wx => s12 = B8 x ∧ w2 = wx)
      case first =>
        by_cases ha0 : a = 0
        · have h0 : ((a : Int) == 0) = true := by rw [beq_iff_eq]; omega
          have HXE : Hid (x = 224) := Lib.hid (by rw [← HX.out, ← HL.out.ctl, if_pos ha0])
          clear ha0
          go_wp2_with fail
          go_meet
          exact ⟨by rw [HXE.out]; rfl, rfl⟩
        · have h0 : ((a : Int) == 0) = false := by rw [beq_eq_false_iff_ne]; omega
          have HXE : Hid (x = n2) := Lib.hid (by rw [← HX.out, ← HL.out.ctl, if_neg ha0, HN2.out])
          clear ha0
          go_wp2_with fail
          go_meet
          exact ⟨by rw [HXE.out], rfl⟩
      case rest =>
      obtain ⟨rfl, rfl⟩ := hcut
      obtain ⟨W3, hW3⟩ : ∃ W3, w2.alloc (.cells #[B8 x] 5) = W3 := ⟨_, rfl⟩
      have ho3 : Own w2.heap.size W3 (.slice (some ⟨w2.heap.size, 0, none⟩) 1 1) [x] := by rw [← hW3]; exact Own.lit w2 [x] (Nat.le_refl _) (by simp)
      have hb3 : Below w2.heap.size w2 W3 := by rw [← hW3]; exact (Below.refl _ _).alloc (Nat.le_refl _) _
      have HW3 := Lib.hid hW3
      have HO3 := Lib.hid ho3
      have HB3 := Lib.hid hb3
      clear hW3 ho3 hb3
      go_wp2_with fail
      rw [show w2.alloc (Obj.cells #[B8 x] 5) = W3 from HW3.out]
      refine (HTW1.out _).mono ?_
      rintro e w4 ⟨v4, rfl, ho4, hb4⟩
      obtain ⟨A4, c4, rfl, _, _, hB4⟩ := ho4.read
      have HB4 := Lib.hid (HB3.out.trans (hb4.mono HB3.out.size))
      have HO34 := Lib.hid (HO3.out.below hb4)
      have HBB4 := Lib.hid hB4
      clear ho4 hb4 hB4
      go_upto_region 22 with (at_builtin; refine wpList_append_bytes ?_ (.tmp 59) (.tmp 64) ?_ w2.heap.size w4 (.slice (some ⟨w2.heap.size, 0, none⟩) 1 1) [x] ?_ HO34.out A4 T1 c4 ?_ HBB4.out (by rw [HT1.out]; show 1 + 2 ≤ 140737488355328; decide) HB4.out.size ?_; rfl; rfl; rfl; rfl; intro v5 w5 ho5 hg5; have HO5 := Lib.hid ho5; have HB5 := Lib.hid (below_grown HB4.out hg5 HB4.out.size (fun g e => (HO34.out.from_base g e).1)); clear ho5 hg5)
      go_wp2_with fail
      refine (HTW2.out HR5.out.1 HR5.out.2 _).mono ?_
      rintro e w6 ⟨v6, rfl, ho6, hb6⟩
      obtain ⟨A6, c6, rfl, _, _, hB6⟩ := ho6.read
      have HB6 := Lib.hid (HB5.out.trans (hb6.mono HB5.out.size))
      have HO56 := Lib.hid (HO5.out.below hb6)
      have HBB6 := Lib.hid hB6
      clear ho6 hb6 hB6
      go_upto_region 23 with (at_builtin; refine wpList_append_bytes ?_ (.tmp 66) (.tmp 70) ?_ w2.heap.size w6 v5 ([x] ++ T1) ?_ HO56.out A6 T2 c6 ?_ HBB6.out (by rw [List.length_append, HT1.out, HT2.out]; show 1 + 2 + 2 ≤ 140737488355328; decide) HB6.out.size ?_; rfl; rfl; rfl; rfl; intro v7 w7 ho7 hg7; have HO7 := Lib.hid ho7; have HB7 := Lib.hid (below_grown HB6.out hg7 HB6.out.size (fun g e => (HO56.out.from_base g e).1)); clear ho7 hg7)
      go_upto_if 73 with fail
      go_cut [13] from 74 to 122 (fun s13 wx => Own w2.heap.size wx s13 ((([x] ++ T1) ++ T2) ++ PP) ∧ Below w2.heap.size w2 wx)
      case first =>
        cases q with
        | true =>
          have hx := HQX.out.1 rfl
          have hP1 : PP = [propB k] := by rw [← HP.out, if_pos hx]
          have hy : Value.int .u8 ((k.lc : Int) + 9 * (k.lp : Int) + 45 * (k.pb : Int)) = B8 (propB k) := by
            unfold B8 propB
            rw [UInt8.toNat_ofNat']
            congr 1
            omega
          obtain ⟨W9, hW9⟩ : ∃ W9, w7.alloc (.cells #[.int .u8 ((k.lc : Int) + 9 * (k.lp : Int) + 45 * (k.pb : Int))] 5) = W9 := ⟨_, rfl⟩
          have HW9 := Lib.hid hW9
          have HX9 : Hid (Bytes W9 (some ⟨w7.heap.size, 0, none⟩) [propB k]) := Lib.hid (by rw [← hW9, hy]; exact Bytes.one w7 _)
          have hb89 : Below w7.heap.size w7 W9 := by rw [← hW9]; exact (Below.refl _ _).alloc (Nat.le_refl _) _
          have HB9 := Lib.hid (HB7.out.trans (hb89.mono HB7.out.size))
          have HO79 := Lib.hid (HO7.out.below hb89)
          have HP2' := Lib.hid hP1
          obtain ⟨y0, y1, y2, y3, y4, y5, y6, y7, y8⟩ := HCE.out w7 (HQ3.out.next HB7.out).opt
          clear hx hP1 hy hW9 hb89
          go_wp2_with (at_builtin; rw [HW9.out]; refine wpList_append_bytes ?_ (.tmp 74) (.tmp 86) ?_ w2.heap.size W9 v7 (([x] ++ T1) ++ T2) ?_ HO79.out (some ⟨w7.heap.size, 0, none⟩) [propB k] 1 ?_ HX9.out (by rw [List.length_append, List.length_append, HT1.out, HT2.out]; show 1 + 2 + 2 + 1 ≤ 140737488355328; decide) HB9.out.size ?_; rfl; rfl; rfl; rfl; intro v10 w10 ho10 hg10; have HO10 := Lib.hid ho10; have HB10 := Lib.hid (below_grown HB9.out hg10 HB9.out.size (fun g e => (HO79.out.from_base g e).1)); clear ho10 hg10)
          go_meet
          exact ⟨by rw [HP2'.out]; exact HO10.out, HB10.out⟩
        | false =>
          have hx : ¬ 192 ≤ x := fun h => Bool.noConfusion (HQX.out.2 h)
          have hP1 : PP = [] := by rw [← HP.out, if_neg hx]
          have HP1 := Lib.hid hP1
          clear hx hP1
          go_wp2_with fail
          go_meet
          exact ⟨by rw [HP1.out, List.append_nil]; exact HO7.out, HB7.out⟩
      case rest =>
      obtain ⟨ho8, hb8⟩ := hcut
      have HO8 := Lib.hid ho8
      have HB8 := Lib.hid hb8
      clear ho8 hb8
      go_upto_region 26 with (at_builtin; refine wpList_append_bytes ?_ (.tmp 88) (.tmp 89) ?_ w2.heap.size wc u13 ((([x] ++ T1) ++ T2) ++ PP) ?_ HO8.out AR R cR ?_ (HBR.out.below HB8.out) (by have := HR5.out.2; have := HPP.out; rw [List.length_append, List.length_append, List.length_append, HT1.out, HT2.out]; show 1 + 2 + 2 + PP.length + R.length ≤ 140737488355328; omega) HB8.out.size ?_; rfl; rfl; rfl; rfl; intro v9 w9 ho9 hg9; rw [HOE.out] at ho9; have HO9 := Lib.hid ho9; have HB9 := Lib.hid (below_grown HB8.out hg9 HB8.out.size (fun g e => (HO8.out.from_base g e).1)); clear ho9 hg9)
      obtain ⟨A9, c9, hv9, _, hc9, hB9⟩ := HO9.out.read
      have HBB9 := Lib.hid hB9
      have HQ9 := Lib.hid (HQ3.out.next HB9.out)
      have hOi : (O.length : Int) ≤ 9223372036854775807 := by omega
      clear hB9
      by_cases h1 : b - a + 3 ≤ O.length
      · have h1i : (3 : Int) + (b : Int) - (a : Int) ≤ (O.length : Int) := by omega
        have HST : Hid (b - a + 3 ≤ O.length ∨ 65536 < R.length) := Lib.hid (.inl h1)
        subst hv9
        clear h1 hc9
        go_upto_if 105 with fail
        clear h1i
        go_cut [12] from 106 to 122 (fun s12 wx => s12 = B8 (if a = 0 then 1 else 2) ∧ w9 = wx)
        case first =>
          by_cases ha0 : a = 0
          · have h0 : ((a : Int) == 0) = true := by rw [beq_iff_eq]; omega
            have HA0 := Lib.hid ha0
            clear ha0
            go_wp2_with fail
            go_meet
            exact ⟨by rw [if_pos HA0.out]; rfl, rfl⟩
          · have h0 : ((a : Int) == 0) = false := by rw [beq_eq_false_iff_ne]; omega
            have HA0 := Lib.hid ha0
            clear ha0
            go_wp2_with fail
            go_meet
            exact ⟨by rw [if_neg HA0.out]; rfl, rfl⟩
        case rest =>
        obtain ⟨rfl, rfl⟩ := hcut
        obtain ⟨zb, hzb⟩ : ∃ z : UInt8, (if a = 0 then 1 else 2) = z := ⟨_, rfl⟩
        rw [hzb]
        have HZB := Lib.hid hzb
        clear hzb
        obtain ⟨X3, hX3⟩ : ∃ W, w9.alloc (.cells #[B8 zb] 5) = W := ⟨_, rfl⟩
        have hp3 : Own w9.heap.size X3 (.slice (some ⟨w9.heap.size, 0, none⟩) 1 1) [zb] := by rw [← hX3]; exact Own.lit w9 [zb] (Nat.le_refl _) (by simp)
        have hc3 : Below w9.heap.size w9 X3 := by rw [← hX3]; exact (Below.refl _ _).alloc (Nat.le_refl _) _
        have HX3 := Lib.hid hX3
        have HP3 := Lib.hid hp3
        have HC3 := Lib.hid hc3
        clear hX3 hp3 hc3
        go_wp2_with fail
        rw [show w9.alloc (Obj.cells #[B8 zb] 5) = X3 from HX3.out]
        refine (HTW1.out _).mono ?_
        rintro e x4 ⟨q4, rfl, hp4, hc4⟩
        obtain ⟨E4, d4, rfl, _, _, hE4⟩ := hp4.read
        have HC4 := Lib.hid (HC3.out.trans (hc4.mono HC3.out.size))
        have HP34 := Lib.hid (HP3.out.below hc4)
        have HE4 := Lib.hid hE4
        clear hp4 hc4 hE4
        go_upto_region 32 with (at_builtin; refine wpList_append_bytes ?_ (.tmp 107) (.tmp 112) ?_ w9.heap.size x4 (.slice (some ⟨w9.heap.size, 0, none⟩) 1 1) [zb] ?_ HP34.out E4 T1 d4 ?_ HE4.out (by rw [HT1.out]; show 1 + 2 ≤ 140737488355328; decide) HC4.out.size ?_; rfl; rfl; rfl; rfl; intro v5 w5 ho5 hg5; have HP5 := Lib.hid ho5; have HC5 := Lib.hid (below_grown HC4.out hg5 HC4.out.size (fun g e => (HP34.out.from_base g e).1)); clear ho5 hg5)
        go_upto_region 34 with (at_builtin; refine wpList_append_bytes ?_ (.tmp 114) (.tmp 118) ?_ w9.heap.size w5 v5 ([zb] ++ T1) ?_ HP5.out (some ⟨bD, oD + a, none⟩) TT (k.cD - a) ?_ (HTT.out.2.2.below (HQ9.out.next HC5.out).below) (by rw [List.length_append, HT1.out, HTT.out.2.1]; have := HBY.out.2.2.2; have := HAB.out; show 1 + 2 + _ ≤ 140737488355328; omega) HC5.out.size ?_; rfl; rfl; rfl; rw [HTT.out.2.1]; rfl; intro v6 w6 ho6 hg6; have HP6 := Lib.hid ho6; have HC6 := Lib.hid (below_grown HC5.out hg6 HC5.out.size (fun g e => (HP5.out.from_base g e).1)); clear ho6 hg6)
        have HST2 : Hid (storeOf k.D a b = ([zb] ++ T1) ++ TT) := Lib.hid (by unfold storeOf; rw [HT1E.out, HTT.out.1, HZB.out]; rfl)
        rw [← HADR.out]
        obtain ⟨SO, hSO⟩ : ∃ SO, ([zb] ++ T1) ++ TT = SO := ⟨_, rfl⟩
        rw [hSO] at HST2 HP6
        have HSOL : Hid (L.length + SO.length ≤ 140737488355328) := Lib.hid (by
          rw [← HST2.out, storeOf_len HAB.out.1 HAB.out.2]
          have := HL.out.len; have := HBY.out.2.2.2; have := HAB.out; omega)
        obtain ⟨A7, c7, rfl, _, _, hB7⟩ := HP6.out.read
        have HB7' := Lib.hid hB7
        have HQ6 := Lib.hid (HQ9.out.next HC6.out)
        clear hSO hB7
        go_wp2_with (at_builtin; refine wpList_append_bytes ?_ (.tmp 120) (.tmp 121) ?_ (w.heap.size + 1) w6 u5 L ?_ HQ6.out.own A7 SO c7 ?_ HB7'.out HSOL.out HQ6.out.lt ?_; rfl; rfl; rfl; rfl; intro v12 w12 ho12 hg12; have HQ12 := Lib.hid (HQ6.out.grow hg12 ho12); obtain ⟨y0, y1, y2, y3, y4, y5, y6, y7, y8⟩ := HCE.out w12 HQ12.out.opt; clear ho12 hg12)
        have hres : chunkOf k a b s told = (SO, none, told) := by rw [HRES.out, if_pos HST.out, HST2.out]
        go_roundw
        case rel =>
          exact ⟨a + k.chunk.toNat, told, true, none, st2, r2, P2, C2, base2, Y3, L ++ SO, rfl, rfl, rfl, by congr 1; have := HCH.out; omega, HQ12, Lib.hid (HL.out.next (by have := HCH.out; omega) HAD.out HBD.out hres (fun h => Bool.noConfusion h) (fun _ => rfl) (fun h => Bool.noConfusion h))⟩
        case measure => have := HCH.out; have := HAD.out; simp [intOf]; omega
      · have h1i : ¬ (3 : Int) + (b : Int) - (a : Int) ≤ (O.length : Int) := by omega
        by_cases h2 : 65536 < R.length
        · have h2i : (65536 : Int) < (R.length : Int) := by omega
          have HST : Hid (b - a + 3 ≤ O.length ∨ 65536 < R.length) := Lib.hid (.inr h2)
          subst hv9
          clear h1 h2 hc9
          go_upto_if 105 with fail
          clear h1i h2i
          go_cut [12] from 106 to 122 (fun s12 wx => s12 = B8 (if a = 0 then 1 else 2) ∧ w9 = wx)
          case first =>
            by_cases ha0 : a = 0
            · have h0 : ((a : Int) == 0) = true := by rw [beq_iff_eq]; omega
              have HA0 := Lib.hid ha0
              clear ha0
              go_wp2_with fail
              go_meet
              exact ⟨by rw [if_pos HA0.out]; rfl, rfl⟩
            · have h0 : ((a : Int) == 0) = false := by rw [beq_eq_false_iff_ne]; omega
              have HA0 := Lib.hid ha0
              clear ha0
              go_wp2_with fail
              go_meet
              exact ⟨by rw [if_neg HA0.out]; rfl, rfl⟩
          case rest =>
          obtain ⟨rfl, rfl⟩ := hcut
          obtain ⟨zb, hzb⟩ : ∃ z : UInt8, (if a = 0 then 1 else 2) = z := ⟨_, rfl⟩
          rw [hzb]
          have HZB := Lib.hid hzb
          clear hzb
          obtain ⟨X3, hX3⟩ : ∃ W, w9.alloc (.cells #[B8 zb] 5) = W := ⟨_, rfl⟩
          have hp3 : Own w9.heap.size X3 (.slice (some ⟨w9.heap.size, 0, none⟩) 1 1) [zb] := by rw [← hX3]; exact Own.lit w9 [zb] (Nat.le_refl _) (by simp)
          have hc3 : Below w9.heap.size w9 X3 := by rw [← hX3]; exact (Below.refl _ _).alloc (Nat.le_refl _) _
          have HX3 := Lib.hid hX3
          have HP3 := Lib.hid hp3
          have HC3 := Lib.hid hc3
          clear hX3 hp3 hc3
          go_wp2_with fail
          rw [show w9.alloc (Obj.cells #[B8 zb] 5) = X3 from HX3.out]
          refine (HTW1.out _).mono ?_
          rintro e x4 ⟨q4, rfl, hp4, hc4⟩
          obtain ⟨E4, d4, rfl, _, _, hE4⟩ := hp4.read
          have HC4 := Lib.hid (HC3.out.trans (hc4.mono HC3.out.size))
          have HP34 := Lib.hid (HP3.out.below hc4)
          have HE4 := Lib.hid hE4
          clear hp4 hc4 hE4
          go_upto_region 32 with (at_builtin; refine wpList_append_bytes ?_ (.tmp 107) (.tmp 112) ?_ w9.heap.size x4 (.slice (some ⟨w9.heap.size, 0, none⟩) 1 1) [zb] ?_ HP34.out E4 T1 d4 ?_ HE4.out (by rw [HT1.out]; show 1 + 2 ≤ 140737488355328; decide) HC4.out.size ?_; rfl; rfl; rfl; rfl; intro v5 w5 ho5 hg5; have HP5 := Lib.hid ho5; have HC5 := Lib.hid (below_grown HC4.out hg5 HC4.out.size (fun g e => (HP34.out.from_base g e).1)); clear ho5 hg5)
          go_upto_region 34 with (at_builtin; refine wpList_append_bytes ?_ (.tmp 114) (.tmp 118) ?_ w9.heap.size w5 v5 ([zb] ++ T1) ?_ HP5.out (some ⟨bD, oD + a, none⟩) TT (k.cD - a) ?_ (HTT.out.2.2.below (HQ9.out.next HC5.out).below) (by rw [List.length_append, HT1.out, HTT.out.2.1]; have := HBY.out.2.2.2; have := HAB.out; show 1 + 2 + _ ≤ 140737488355328; omega) HC5.out.size ?_; rfl; rfl; rfl; rw [HTT.out.2.1]; rfl; intro v6 w6 ho6 hg6; have HP6 := Lib.hid ho6; have HC6 := Lib.hid (below_grown HC5.out hg6 HC5.out.size (fun g e => (HP5.out.from_base g e).1)); clear ho6 hg6)
          have HST2 : Hid (storeOf k.D a b = ([zb] ++ T1) ++ TT) := Lib.hid (by unfold storeOf; rw [HT1E.out, HTT.out.1, HZB.out]; rfl)
          rw [← HADR.out]
          obtain ⟨SO, hSO⟩ : ∃ SO, ([zb] ++ T1) ++ TT = SO := ⟨_, rfl⟩
          rw [hSO] at HST2 HP6
          have HSOL : Hid (L.length + SO.length ≤ 140737488355328) := Lib.hid (by
            rw [← HST2.out, storeOf_len HAB.out.1 HAB.out.2]
            have := HL.out.len; have := HBY.out.2.2.2; have := HAB.out; omega)
          obtain ⟨A7, c7, rfl, _, _, hB7⟩ := HP6.out.read
          have HB7' := Lib.hid hB7
          have HQ6 := Lib.hid (HQ9.out.next HC6.out)
          clear hSO hB7
          go_wp2_with (at_builtin; refine wpList_append_bytes ?_ (.tmp 120) (.tmp 121) ?_ (w.heap.size + 1) w6 u5 L ?_ HQ6.out.own A7 SO c7 ?_ HB7'.out HSOL.out HQ6.out.lt ?_; rfl; rfl; rfl; rfl; intro v12 w12 ho12 hg12; have HQ12 := Lib.hid (HQ6.out.grow hg12 ho12); obtain ⟨y0, y1, y2, y3, y4, y5, y6, y7, y8⟩ := HCE.out w12 HQ12.out.opt; clear ho12 hg12)
          have hres : chunkOf k a b s told = (SO, none, told) := by rw [HRES.out, if_pos HST.out, HST2.out]
          go_roundw
          case rel =>
            exact ⟨a + k.chunk.toNat, told, true, none, st2, r2, P2, C2, base2, Y3, L ++ SO, rfl, rfl, rfl, by congr 1; have := HCH.out; omega, HQ12, Lib.hid (HL.out.next (by have := HCH.out; omega) HAD.out HBD.out hres (fun h => Bool.noConfusion h) (fun _ => rfl) (fun h => Bool.noConfusion h))⟩
          case measure => have := HCH.out; have := HAD.out; simp [intOf]; omega
        · have h2i : ¬ (65536 : Int) < (R.length : Int) := by omega
          have HST : Hid (¬ (b - a + 3 ≤ O.length ∨ 65536 < R.length)) := Lib.hid (by omega)
          have HSOL : Hid (L.length + O.length ≤ 140737488355328) := Lib.hid (by
            have := HL.out.len; have := HBY.out.2.2.2; have := HAB.out; omega)
          subst hv9
          clear h1 h2 hc9
          rw [← HADR.out]
          go_wp2_with (at_builtin; refine wpList_append_bytes ?_ (.tmp 120) (.tmp 121) ?_ (w.heap.size + 1) w9 u5 L ?_ HQ9.out.own A9 O c9 ?_ HBB9.out HSOL.out HQ9.out.lt ?_; rfl; rfl; rfl; rfl; intro v12 w12 ho12 hg12; have HQ12 := Lib.hid (HQ9.out.grow hg12 ho12); obtain ⟨y0, y1, y2, y3, y4, y5, y6, y7, y8⟩ := HCE.out w12 HQ12.out.opt; clear ho12 hg12)
          have hres : chunkOf k a b s told = (O, some (st2, r2, P2), true) := by rw [HRES.out, if_neg HST.out]
          go_roundw
          case rel =>
            exact ⟨a + k.chunk.toNat, true, false, some (st2, r2, P2), st2, r2, P2, C2, base2, Y3, L ++ O, rfl, rfl, rfl, by congr 1; have := HCH.out; omega, HQ12, Lib.hid (HL.out.next (by have := HCH.out; omega) HAD.out HBD.out hres (fun _ => rfl) (fun h => Bool.noConfusion h) (fun _ => rfl))⟩
          case measure => have := HCH.out; have := HAD.out; simp [intOf]; omega
end Go.Proofs.YtklkboplkobhgaaGreat
