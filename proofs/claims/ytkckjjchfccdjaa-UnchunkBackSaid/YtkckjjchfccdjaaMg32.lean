/- Several texts in one: UcShort, UcLaw0, ChkPack. -/
import Derived.Test.YtkckjjchfccdjaaMg31
import Derived.Test.YtkckjjchfccdjaaMg13
import Derived.Lib.SlBytesConst
import Derived.Test.YtkckjjchfccdjaaMg27
/- Chunks read back: what is read stays short. -/
namespace Go.Proofs.Ytkckjjchfccdjaa
set_option maxRecDepth 100000
open Go.RowKit

theorem unstore_grows {B : List UInt8} {pos p : Nat} {s t : CkS} (h : unstore B pos s = .go p t) : t.out.length + (pos + 3) ≤ s.out.length + (p + 1) ∧ p ≤ B.length := by
  unfold unstore at h
  split at h
  · cases h
  · split at h
    · cases h
    · injection h with h1 h2
      subst h1; subst h2
      simp only [List.length_append, List.length_take, List.length_drop]
      omega
theorem undecode_grows {L : List UInt8} {size : Nat} {dict : Int} {pos p : Nat} {s t : CkS} (h : undecode L size dict pos s = .go p t) : t.out.length ≤ s.out.length + size ∧ p = pos := by
  unfold undecode at h
  split at h
  · cases h
  · split at h
    · cases h
    · obtain ⟨RES, hR⟩ : ∃ R, uread 0 0 0 L s.lc s.lp s.pb dict ((s.out.drop s.start).length + size) size (s.out.drop s.start) s.st s.r (s.P, Rd.start L) = R := ⟨_, rfl⟩
      rw [hR] at h
      unfold unmore at h
      cases RES with
      | none => cases h
      | some q =>
        obtain ⟨T, st, r, y⟩ := q
        have hg := (uread_grow size _ _ _ _ hR).2 (by omega)
        simp only at h hg
        split at h
        · injection h with h1 h2
          subst h2
          refine ⟨?_, h1.symm⟩
          simp only [List.length_append, List.length_drop] at hg ⊢
          omega
        · cases h
theorem unprops_out {c : Nat} {B : List UInt8} {pos p : Nat} {s t : CkS} (h : unprops c B pos s = .go p t) : t.out = s.out ∧ pos ≤ p := by
  refine ⟨?_, unprops_go h⟩
  unfold unprops at h
  split at h
  · injection h with _ h2; rw [← h2]
  · split at h
    · cases h
    · injection h with _ h2; rw [← h2]
theorem unnew_out {c pos p : Nat} {s t : CkS} (h : unnew c pos s = .go p t) : t.out = s.out ∧ pos ≤ p := by
  refine ⟨?_, unnew_go h⟩
  unfold unnew at h
  split at h
  · injection h with _ h2; rw [← h2]
  · split at h
    · cases h
    · injection h with _ h2; rw [← h2]; rfl
theorem unclear_out (c : Nat) (s : CkS) : (unclear c s).out = s.out := by
  unfold unclear
  split <;> rfl
theorem unchunk_grows {B : List UInt8} {dict : Int} {c pos p : Nat} {s t : CkS} (h : unchunkC B dict c pos s = .go p t) : 6 * t.out.length + 2097152 * pos ≤ 6 * s.out.length + 2097152 * (p + 1) ∧ p ≤ B.length := by
  rw [← unclear_out c s]
  unfold unchunkC at h
  generalize unclear c s = s1 at *
  unfold unchunk1 at h
  split at h
  · cases h
  · split at h
    · have h1 := unstore_grows h
      have h2 := unstore_go h
      omega
    · split at h
      · cases h
      · unfold unpackC at h
        split at h
        · cases h
        · obtain ⟨q, x, h1, h2⟩ := ckThen_go h
          obtain ⟨q', x', h3, h4⟩ := ckThen_go h1
          have a1 := unprops_out h3
          have a2 := unnew_out h4
          unfold unbytes at h2
          split at h2
          · cases h2
          · have a3 := undecode_grows h2
            have b1 := ckTwo_lt B pos
            have b2 := a2.1.trans a1.1
            rw [b2] at a3
            omega
theorem unchunk_short {B : List UInt8} {dict : Int} (hB : B.length ≤ 1100) : ∀ (f pos : Nat) (s : CkS), pos ≤ B.length → 6 * s.out.length ≤ 2097152 * pos → CkShort B dict f pos s
  | 0, pos, s, h1, h2 => by unfold CkShort; omega
  | f + 1, pos, s, h1, h2 => by
    unfold CkShort
    refine ⟨by omega, fun hp _ => ?_⟩
    cases hck : unchunkC B dict (B.getD pos 0).toNat (pos + 1) s with
    | bad n => trivial
    | go p t =>
      have hg := unchunk_grows hck
      exact unchunk_short hB f p t hg.2 (by omega)
theorem unchunk_short0 {B : List UInt8} {dict : Int} (hB : B.length ≤ 1100) (f : Nat) : CkShort B dict f 0 ck0 := unchunk_short hB f 0 ck0 (Nat.zero_le _) (by decide)
theorem unchunk_one : unchunkAll [1, 0, 0, 7, 0, 9] 1 7 0 ck0 = ([7], 5, 0) := rfl
theorem unchunk_two (d : Int) : unchunkAll [] d 1 0 ck0 = ([], 0, 2) := rfl
theorem unchunk_three (d : Int) : unchunkAll [2] d 2 0 ck0 = ([], 0, 6) := rfl
end Go.Proofs.Ytkckjjchfccdjaa

/- The rows of the document's examples, of unchunk. -/
namespace Go.Proofs.Ytkckjjchfccdjaa
set_option maxRecDepth 100000
open Go.RowKit

theorem six_new (w : World) : Bytes (w.alloc (.cells #[.int .u8 1, .int .u8 0, .int .u8 0, .int .u8 7, .int .u8 0, .int .u8 9] 5 (6, 7))) (some ⟨w.heap.size, 0, none⟩) [1, 0, 0, 7, 0, 9] := by
  refine .inr ⟨_, _, rfl, by simp, fun k hk => ?_⟩
  rw [cell_of_row _ _ _ _ _ _ (heap_alloc_last _ _), Nat.zero_add]
  have hk9 : k < 6 := by simpa using hk
  match k, hk9 with
  | 0, _ | 1, _ | 2, _ | 3, _ | 4, _ | 5, _ => rfl
theorem one_new (w : World) : Bytes (w.alloc (.cells #[.int .u8 2] 5)) (some ⟨w.heap.size, 0, none⟩) [2] := by
  refine .inr ⟨_, _, rfl, by simp, fun k hk => ?_⟩
  rw [cell_of_row _ _ _ _ _ _ (heap_alloc_last _ _), Nat.zero_add]
  have hk9 : k < 1 := by simpa using hk
  match k, hk9 with
  | 0, _ => rfl
set_option maxHeartbeats 4000000 in
theorem ucknows_any (w : World) : Calls Try.prog 5 #[] w (Holds w) := by
  obtain ⟨W1, hW1⟩ : ∃ W, w.alloc (.cells #[.int .u8 1, .int .u8 0, .int .u8 0, .int .u8 7, .int .u8 0, .int .u8 9] 5 (6, 7)) = W := ⟨_, rfl⟩
  have hb1 : Below w.heap.size w W1 := by rw [← hW1]; exact (Below.refl _ _).alloc (Nat.le_refl _) _
  have hs1 : w.heap.size < W1.heap.size := by rw [← hW1]; simp
  have hB1 : Bytes W1 (some ⟨w.heap.size, 0, none⟩) [1, 0, 0, 7, 0, 9] := by rw [← hW1]; exact six_new w
  have h1 := ucread_any (some ⟨w.heap.size, 0, none⟩) [1, 0, 0, 7, 0, 9] 6 1 W1 hB1 (fun a ha => by injection ha with ha; rw [← ha]; exact hs1) (by decide) (by decide) (by decide) (by decide) (by decide) (fuel := 7) (by decide) (unchunk_short0 (by decide) 7)
  rw [unchunk_one] at h1
  have H1 : Hid (Calls Try.prog 6 #[.slice (some ⟨w.heap.size, 0, none⟩) 6 6, .int .i64 1] W1 (UcDone W1 ([7], 5, 0))) := Lib.hid h1
  have HW1 := Lib.hid hW1
  have HB1 := Lib.hid hb1
  clear hW1 hb1 hs1 hB1 h1
  have kc := fun (w : World) (C : Array Value) (n c : Nat) => Lib.run_convert_bytes_const (P := Try.prog) w 22 5 C n c Try.underlying22 Try.underlying5
  go_enter Try.func5, Try.ntmps5
  go_wp2_with fail
  rw [HW1.out]
  clear kc
  refine H1.out.mono ?_
  rintro e w2 ⟨A2, c2, rfl, hc2, hB2, hb2⟩
  have g2 := HB1.out.trans (hb2.mono HB1.out.size)
  have HG2 := Lib.hid g2
  have HB2 := Lib.hid hB2
  have h3 := ucread_any none [] 0 1 w2 .nil (fun a ha => by cases ha) (by decide) (by decide) (by decide) (by decide) (by decide) (fuel := 1) (by decide) (unchunk_short0 (by decide) 1)
  rw [unchunk_two] at h3
  have H3 : Hid (Calls Try.prog 6 #[.slice none 0 0, .int .i64 1] w2 (UcDone w2 ([], 0, 2))) := Lib.hid h3
  clear hc2 hB2 hb2 g2 h3
  go_wp2_with fail
  refine H3.out.mono ?_
  rintro e w3 ⟨A3, c3, rfl, hc3, _, hb3⟩
  obtain ⟨W4, hW4⟩ : ∃ W, w3.alloc (.cells #[.int .u8 2] 5) = W := ⟨_, rfl⟩
  have hb4 : Below w3.heap.size w3 W4 := by rw [← hW4]; exact (Below.refl _ _).alloc (Nat.le_refl _) _
  have hs4 : w3.heap.size < W4.heap.size := by rw [← hW4]; simp
  have hB4 : Bytes W4 (some ⟨w3.heap.size, 0, none⟩) [2] := by rw [← hW4]; exact one_new w3
  have h5 := ucread_any (some ⟨w3.heap.size, 0, none⟩) [2] 1 1 W4 hB4 (fun a ha => by injection ha with ha; rw [← ha]; exact hs4) (by decide) (by decide) (by decide) (by decide) (by decide) (fuel := 2) (by decide) (unchunk_short0 (by decide) 2)
  rw [unchunk_three] at h5
  have H5 : Hid (Calls Try.prog 6 #[.slice (some ⟨w3.heap.size, 0, none⟩) 1 1, .int .i64 1] W4 (UcDone W4 ([], 0, 6))) := Lib.hid h5
  have HW4 := Lib.hid hW4
  have HB24 := Lib.hid (hb3.trans (hb4.mono hb3.size))
  clear hc3 hb3 hW4 hb4 hs4 hB4 h5
  go_wp2_with fail
  rw [HW4.out]
  refine H5.out.mono ?_
  rintro e w5 ⟨A5, c5, rfl, hc5, _, hb5⟩
  have hb25 := HB24.out.trans (hb5.mono HB24.out.size)
  have hs : (convert 22 9 (.slice A2 1 c2)).run Try.prog w5 = .ok (.string ⟨#[7]⟩) w5 := run_str (HB2.out.below hb25) c2
  have HFIN := Lib.hid (HG2.out.trans (hb25.mono HG2.out.size))
  clear hb5 hb25 hc5
  go_wp2_with fail
  go_ret
  exact ⟨rfl, HFIN.out⟩
end Go.Proofs.Ytkckjjchfccdjaa

/- Chunks: Pack. -/
namespace Go.Proofs.Ytkckjjchfccdjaa
set_option maxRecDepth 100000
open Go.RowKit Go.Shelf
attribute [local go_sem] Oper.semAt_some

def PackBad (w : World) (e : Ending) (w' : World) : Prop := e = .returned (.tuple #[.slice none 0 0, .int .i64 1]) ∧ Below w.heap.size w w'
theorem packBoxes {w W : World} {vs : List Value} {t0 t1 t2 : TypeId} {v1 v2 : Value} (h : ((w.alloc (.cells vs.toArray t0)).alloc (.cells #[v1] t1)).alloc (.cells #[v2] t2) = W) :
    W.heap[w.heap.size]? = some (.cells vs.toArray t0 (0, 0)) ∧ W.heap[w.heap.size + 1]? = some (.cells #[v1] t1 (0, 0)) ∧ W.heap[w.heap.size + 1 + 1]? = some (.cells #[v2] t2 (0, 0)) ∧ Below w.heap.size w W ∧ W.heap.size = w.heap.size + 1 + 1 + 1 := by
  subst h
  have up : ∀ {b : Nat} {W : World} {o' : Obj} (o : Obj), W.heap[b]? = some o' → (W.alloc o).heap[b]? = some o' := fun o h => (Below.heap_alloc _ _ _ (Array.getElem?_eq_some_iff.1 h).1).trans h
  have mk2 : ∀ (W : World) (o : Obj) (b : Nat), b = W.heap.size → (W.alloc o).heap[b]? = some o := fun W o b e => by subst e; exact heap_alloc_last W o
  refine ⟨up _ (up _ (mk2 _ _ _ rfl)), up _ (mk2 _ _ _ (by simp)), mk2 _ _ _ (by simp), ?_, by simp⟩
  refine Below.alloc ?_ (by simp; omega) _
  refine Below.alloc ?_ (by simp) _
  exact (Below.refl _ _).alloc (Nat.le_refl _) _
set_option maxRecDepth 100000 in
set_option maxHeartbeats 2000000 in
theorem pack_bad (v : Value) (lc lp pb nice chunk block check : Int) (chain : Value) (dict : Nat) (w : World) (hf : fineB lc lp pb nice chunk dict = false) :
    Calls Try.prog 9 #[v, OptV lc lp pb nice chunk block check chain dict] w (PackBad w) := by
  obtain ⟨W, hW⟩ : ∃ W, ((w.alloc (.cells #[.int .i64 lc, .int .i64 lp, .int .i64 pb, .int .i64 nice, .int .i64 chunk, .int .i64 block, .int .i64 check, chain, .int .u32 (dict : Nat)] 33)).alloc (.cells #[.slice none 0 0] 22)).alloc (.cells #[.int .i64 0] 24) = W := ⟨_, rfl⟩
  obtain ⟨r0, r1, r2, hb, hs⟩ := packBoxes (vs := optRow lc lp pb nice chunk block check chain dict) hW
  have HF := Lib.hid (fine_any lc lp pb nice chunk block check chain dict W)
  rw [hf] at HF
  have c0 : W.cell? ⟨w.heap.size, 0, none⟩ = some (.int .i64 lc) := by rw [cell_of_row W _ _ _ _ _ r0]; rfl
  have c1 : W.cell? ⟨w.heap.size, 1, none⟩ = some (.int .i64 lp) := by rw [cell_of_row W _ _ _ _ _ r0]; rfl
  have c2 : W.cell? ⟨w.heap.size, 2, none⟩ = some (.int .i64 pb) := by rw [cell_of_row W _ _ _ _ _ r0]; rfl
  have c3 : W.cell? ⟨w.heap.size, 3, none⟩ = some (.int .i64 nice) := by rw [cell_of_row W _ _ _ _ _ r0]; rfl
  have c4 : W.cell? ⟨w.heap.size, 4, none⟩ = some (.int .i64 chunk) := by rw [cell_of_row W _ _ _ _ _ r0]; rfl
  have c5 : W.cell? ⟨w.heap.size, 5, none⟩ = some (.int .i64 block) := by rw [cell_of_row W _ _ _ _ _ r0]; rfl
  have c6 : W.cell? ⟨w.heap.size, 6, none⟩ = some (.int .i64 check) := by rw [cell_of_row W _ _ _ _ _ r0]; rfl
  have c7 : W.cell? ⟨w.heap.size, 7, none⟩ = some chain := by rw [cell_of_row W _ _ _ _ _ r0]; rfl
  have c8 : W.cell? ⟨w.heap.size, 8, none⟩ = some (.int .u32 (dict : Nat)) := by rw [cell_of_row W _ _ _ _ _ r0]; rfl
  have HW := Lib.hid hW
  have HB := Lib.hid hb
  have HR : Hid (W.heap[w.heap.size + 1]? = some (.cells #[.slice none 0 0] 22 (0, 0)) ∧ W.heap[w.heap.size + 1 + 1]? = some (.cells #[.int .i64 0] 24 (0, 0))) := Lib.hid ⟨r1, r2⟩
  clear hW hb hs r0 r1 r2 hf
  go_enter Try.func9, Try.ntmps9
  go_upto_region 1 with fail
  rw [HW.out]
  go_wp2_with fail
  refine HF.out.mono ?_
  rintro e w1 ⟨rfl, hb1⟩
  have l1 : w.heap.size + 1 < W.heap.size := (Array.getElem?_eq_some_iff.1 HR.out.1).1
  have l2 : w.heap.size + 1 + 1 < W.heap.size := (Array.getElem?_eq_some_iff.1 HR.out.2).1
  have s1 := (hb1.block _ l1).trans HR.out.1
  have s2 := (hb1.block _ l2).trans HR.out.2
  have k1 : w1.cell? ⟨w.heap.size + 1, 0, none⟩ = some (.slice none 0 0) := by rw [cell_of_row w1 _ _ _ _ _ s1]; rfl
  have k2 : w1.cell? ⟨w.heap.size + 1 + 1, 0, none⟩ = some (.int .i64 0) := by rw [cell_of_row w1 _ _ _ _ _ s2]; rfl
  have f1 := frozen_of_row w1 _ 0 _ _ s1
  have f2 := frozen_of_row w1 _ 0 _ _ s2
  have n12 : w.heap.size + 1 ≠ w.heap.size + 1 + 1 := by omega
  have HB1 := Lib.hid (HB.out.trans (hb1.mono HB.out.size))
  clear hb1 l1 l2 s1 s2 c0 c1 c2 c3 c4 c5 c6 c7 c8
  go_wp2_with fail
  have kk1 : ((w1.setCell ⟨w.heap.size + 1, 0, none⟩ (.slice none 0 0)).setCell ⟨w.heap.size + 1 + 1, 0, none⟩ (.int .i64 1)).cell? ⟨w.heap.size + 1, 0, none⟩ = some (.slice none 0 0) := by
    rw [World.cell?_setCell_other _ _ _ _ (fun e => by have := congrArg Addr.block e; simp at this)]
    exact World.cell?_setCell_same _ _ _ k1
  have kk2 : ((w1.setCell ⟨w.heap.size + 1, 0, none⟩ (.slice none 0 0)).setCell ⟨w.heap.size + 1 + 1, 0, none⟩ (.int .i64 1)).cell? ⟨w.heap.size + 1 + 1, 0, none⟩ = some (.int .i64 1) :=
    World.cell?_setCell_same _ _ _ ((World.cell?_setCell_other _ _ _ _ (fun e => by have := congrArg Addr.block e; simp at this)).trans k2)
  have hbw := (HB1.out.setCell (p := ⟨w.heap.size + 1, 0, none⟩) (Nat.le_succ _) (.slice none 0 0)).setCell (p := ⟨w.heap.size + 1 + 1, 0, none⟩) (Nat.le_trans (Nat.le_succ _) (Nat.le_succ _)) (.int .i64 1)
  generalize (w1.setCell ⟨w.heap.size + 1, 0, none⟩ (.slice none 0 0)).setCell ⟨w.heap.size + 1 + 1, 0, none⟩ (.int .i64 1) = W9 at *
  exact bodyPost_ret (v := .tuple #[.slice none 0 0, .int .i64 1]) (by simp [results, Try.results9, go_sem, kk1, kk2]) rfl ⟨rfl, hbw⟩
structure PkO (k : PkS) (o : Value) : Prop where
  val : o = OptV (k.lc : Nat) (k.lp : Nat) (k.pb : Nat) k.nice k.chunk k.block k.check k.chain k.dict
  lc : k.lc ≤ 4
  lp : k.lp ≤ 4
  pb : k.pb ≤ 4
  lclp : k.lc + k.lp ≤ 4
  nice : 2 ≤ k.nice ∧ k.nice ≤ 273
  chunk : 1 ≤ k.chunk ∧ k.chunk ≤ 65536
  dict : 4096 ≤ k.dict ∧ k.dict ≤ 67108864
end Go.Proofs.Ytkckjjchfccdjaa
