/- Several texts in one: UcChunk, UcRead. -/
import Derived.Test.YtkckjjchfccdjaaUcPack
/- Chunks read back: a chunk. -/
namespace Go.Proofs.Ytkckjjchfccdjaa
set_option maxRecDepth 100000
open Go.RowKit

theorem ck_ok {s : CkS} {c : Nat} (h : s.clear = true) (h2 : ¬ (2 < c ∧ c < 128)) : ¬ (s.clear = false ∨ (2 < c ∧ c < 128)) := by
  rw [h]
  intro h
  rcases h with h | h
  · cases h
  · exact h2 h
set_option maxHeartbeats 8000000 in
theorem ucchunk_any {k : UkP} {w : World} {pos : Nat} {s : CkS} (h : Uk k w pos s) (c : Nat) (hc1 : 1 ≤ c) (hc2 : c < 256) (ho : s.out.length ≤ 400000000) (hd1 : 1 ≤ k.dict) (hd2 : k.dict ≤ 9223372036854775807) :
    Calls Try.prog 11 #[PF k.R, .int .u8 (c : Nat), NextV k] w (CkDone k (unchunkC k.B k.dict c pos s)) := by
  have HD := Lib.hid (And.intro hd1 hd2)
  have HO := Lib.hid ho
  have H := Lib.hid h
  by_cases hcl : c = 1 ∨ 224 ≤ c
  · obtain ⟨s1, hs1⟩ : ∃ s1 : CkS, { s with start := s.out.length, clear := true, asked := true } = s1 := ⟨_, rfl⟩
    have hun : unchunkC k.B k.dict c pos s = unchunk1 k.B k.dict c pos s1 := by unfold unchunkC unclear; rw [if_pos hcl, hs1]
    obtain ⟨cv, hU, _⟩ := h
    obtain ⟨v, ⟨_, r1, r2, r3, r4, _, _, _, _⟩, hov, hfr⟩ := hU.cells
    obtain ⟨AO, cO, rfl, hcO, hmO, hBO⟩ := hov.read
    have f2 := hfr 2
    have f3 := hfr 3
    have f4 := hfr 4
    have u1 := hU.put 2 (.int .i64 (s.out.length : Nat)) (s' := { s with start := s.out.length }) (cv' := cv) (fun _ => rfl) rfl (Nat.le_refl _)
    have u2 := u1.put 3 (.bool true) (s' := { s with start := s.out.length, clear := true }) (cv' := cv) (fun _ => rfl) rfl (Nat.le_refl _)
    have u3 := u2.put 4 (.bool true) (s' := { s with start := s.out.length, clear := true, asked := true }) (cv' := cv) (fun _ => rfl) rfl (Nat.le_refl _)
    rw [hs1] at u3
    have hs1a : s1.asked = true ∧ s1.clear = true ∧ s1.out = s.out := by rw [← hs1]; exact ⟨rfl, rfl, rfl⟩
    have hk3 : Uk k (((w.setCell ⟨k.R, 2, none⟩ (.int .i64 (s.out.length : Nat))).setCell ⟨k.R, 3, none⟩ (.bool true)).setCell ⟨k.R, 4, none⟩ (.bool true)) pos s1 := ⟨cv, u3, fun _ h2 => by rw [hs1a.1] at h2; cases h2⟩
    obtain ⟨_, ⟨_, _, _, q3, q4, _, _, _, _⟩, _, _⟩ := u3.cells
    obtain ⟨w3, hw3⟩ : ∃ W, ((w.setCell ⟨k.R, 2, none⟩ (.int .i64 (s.out.length : Nat))).setCell ⟨k.R, 3, none⟩ (.bool true)).setCell ⟨k.R, 4, none⟩ (.bool true) = W := ⟨_, rfl⟩
    rw [hw3] at hk3 q3 q4
    rw [hs1a.2.1] at q3
    rw [hs1a.1] at q4
    have HK3 := Lib.hid hk3
    have HW3 := Lib.hid hw3
    have HS1 := Lib.hid hs1a
    have HO1 := Lib.hid (show s1.out.length ≤ 400000000 by rw [hs1a.2.2]; exact ho)
    have hoi : (s.out.length : Int) ≤ 400000000 := by omega
    generalize s.out.length = n at *
    clear hU hov hcO hmO hBO u1 u2 u3 hk3 hw3 hs1 hs1a ho hd1 hd2 hfr
    by_cases h1 : c = 1
    · subst h1
      have HR := Lib.hid (hun.trans (show unchunk1 k.B k.dict 1 pos s1 = unstore k.B pos s1 by unfold unchunk1; rw [if_neg (ck_ok HS1.out.2.1 (by omega)), if_pos (by omega)]))
      have HST := Lib.hid (stored_any HK3.out HO1.out)
      clear hun hcl hc1 hc2
      go_enter Try.func11, Try.ntmps11
      go_upto_region 5 with fail
      rw [HW3.out]
      go_wp2_with fail
      refine HST.out.mono ?_
      intro e w8 hd8
      obtain ⟨m, rfl, hd8⟩ := hd8.ret
      have HD8 := Lib.hid hd8
      clear hd8
      go_wp2_with fail
      go_ret
      rw [HR.out]
      exact HD8.out
    · have h224 : 224 ≤ c := by omega
      have HR := Lib.hid (hun.trans (show unchunk1 k.B k.dict c pos s1 = unpackC k.B k.dict c pos s1 by unfold unchunk1; rw [if_neg (ck_ok HS1.out.2.1 (by omega)), if_neg (by omega), if_neg (by omega)]))
      have HPK := Lib.hid (packed_any HK3.out c (by omega) hc2 HS1.out.2.1 (by omega) HO1.out HD.out.1 HD.out.2)
      have i1 : ¬ (c : Int) = 1 := by omega
      have i1b : ((c : Int) == 1) = false := beq_eq_false_iff_ne.2 i1
      have i2 : (224 : Int) ≤ (c : Int) := by omega
      have i3 : (c : Int) < 256 := by omega
      clear hun hcl hc1 hc2 h1 h224
      go_enter Try.func11, Try.ntmps11
      go_upto_region 5 with fail
      rw [HW3.out]
      go_wp2_with fail
      refine HPK.out.mono ?_
      intro e w8 hd8
      obtain ⟨m, rfl, hd8⟩ := hd8.ret
      have HD8 := Lib.hid hd8
      clear hd8
      go_wp2_with fail
      go_ret
      rw [HR.out]
      exact HD8.out
  · have hun : unchunkC k.B k.dict c pos s = unchunk1 k.B k.dict c pos s := by unfold unchunkC unclear; rw [if_neg hcl]
    obtain ⟨cv, hU, _⟩ := h
    obtain ⟨v, ⟨_, _, _, r3, r4, _, _, _, _⟩, _, _⟩ := hU.cells
    have i1 : ¬ (c : Int) = 1 := by omega
    have i1b : ((c : Int) == 1) = false := beq_eq_false_iff_ne.2 i1
    have i2 : (c : Int) < 224 := by omega
    have i3 : (1 : Int) ≤ (c : Int) := by omega
    clear hU ho hd1 hd2
    cases hq : s.clear with
    | false =>
      have HR := Lib.hid (hun.trans (show unchunk1 k.B k.dict c pos s = .bad 6 by unfold unchunk1; rw [if_pos (.inl hq)]))
      rw [hq] at r3
      clear hun hcl hc1 hc2 hq
      go_enter Try.func11, Try.ntmps11
      go_wp2_with fail
      go_ret
      rw [HR.out]
      exact ⟨rfl, H.out.below⟩
    | true =>
      rw [hq] at r3
      have HQ := Lib.hid hq
      by_cases hmid : 2 < c ∧ c < 128
      · have HR := Lib.hid (hun.trans (show unchunk1 k.B k.dict c pos s = .bad 6 by unfold unchunk1; rw [if_pos (.inr hmid)]))
        have i4 : (2 : Int) < (c : Int) := by omega
        have i5 : (c : Int) < 128 := by omega
        clear hun hcl hc1 hc2 hq hmid
        go_enter Try.func11, Try.ntmps11
        go_wp2_with fail
        go_ret
        rw [HR.out]
        exact ⟨rfl, H.out.below⟩
      · have hng : ¬ (s.clear = false ∨ (2 < c ∧ c < 128)) := ck_ok hq hmid
        by_cases hst : c ≤ 2
        · have hc : c = 2 := by omega
          subst hc
          have HR := Lib.hid (hun.trans (show unchunk1 k.B k.dict 2 pos s = unstore k.B pos s by unfold unchunk1; rw [if_neg hng, if_pos hst]))
          have HST := Lib.hid (stored_any H.out HO.out)
          clear hun hcl hc1 hc2 hq hmid hng hst i1 i1b i2 i3
          go_enter Try.func11, Try.ntmps11
          go_wp2_with fail
          refine HST.out.mono ?_
          intro e w8 hd8
          obtain ⟨m, rfl, hd8⟩ := hd8.ret
          have HD8 := Lib.hid hd8
          clear hd8
          go_wp2_with fail
          go_ret
          rw [HR.out]
          exact HD8.out
        · have i4 : (128 : Int) ≤ (c : Int) := by omega
          by_cases hask : c < 192 ∧ s.asked = true
          · have HR := Lib.hid (hun.trans (show unchunk1 k.B k.dict c pos s = .bad 6 by unfold unchunk1; rw [if_neg hng, if_neg hst, if_pos hask]))
            have i5 : (c : Int) < 192 := by omega
            rw [hask.2] at r4
            clear hun hcl hc1 hc2 hq hmid hng hst hask
            go_enter Try.func11, Try.ntmps11
            go_wp2_with fail
            go_ret
            rw [HR.out]
            exact ⟨rfl, H.out.below⟩
          · have HR := Lib.hid (hun.trans (show unchunk1 k.B k.dict c pos s = unpackC k.B k.dict c pos s by unfold unchunk1; rw [if_neg hng, if_neg hst, if_neg hask]))
            have HPK := Lib.hid (packed_any H.out c (by omega) hc2 HQ.out hask HO.out HD.out.1 HD.out.2)
            have hb : decide ((c : Int) < 192) = true → s.asked = false := fun h => by
              have h192 : c < 192 := by have := of_decide_eq_true h; omega
              cases hx : s.asked with
              | false => rfl
              | true => exact absurd ⟨h192, hx⟩ hask
            by_cases h192 : (c : Int) < 192
            · have ha := hb (decide_eq_true h192)
              rw [ha] at r4
              clear hun hcl hc1 hc2 hq hmid hng hst hask hb
              go_enter Try.func11, Try.ntmps11
              go_wp2_with fail
              refine HPK.out.mono ?_
              intro e w8 hd8
              obtain ⟨m, rfl, hd8⟩ := hd8.ret
              have HD8 := Lib.hid hd8
              clear hd8
              go_wp2_with fail
              go_ret
              rw [HR.out]
              exact HD8.out
            · clear hun hcl hc1 hc2 hq hmid hng hst hask hb
              go_enter Try.func11, Try.ntmps11
              go_wp2_with fail
              refine HPK.out.mono ?_
              intro e w8 hd8
              obtain ⟨m, rfl, hd8⟩ := hd8.ret
              have HD8 := Lib.hid hd8
              clear hd8
              go_wp2_with fail
              go_ret
              rw [HR.out]
              exact HD8.out
end Go.Proofs.Ytkckjjchfccdjaa

/- Chunks read back: unchunk's Read. -/
namespace Go.Proofs.Ytkckjjchfccdjaa
set_option maxRecDepth 100000
open Go.RowKit

theorem unstore_go {B : List UInt8} {pos p : Nat} {s t : CkS} (h : unstore B pos s = .go p t) : pos ≤ p := by
  unfold unstore at h
  split at h
  · cases h
  · split at h
    · cases h
    · injection h with h1 _; omega
theorem undecode_go {L : List UInt8} {size : Nat} {dict : Int} {pos p : Nat} {s t : CkS} (h : undecode L size dict pos s = .go p t) : p = pos := by
  unfold undecode at h
  split at h
  · cases h
  · split at h
    · cases h
    · unfold unmore at h
      split at h
      · cases h
      · split at h
        · injection h with h1 _; exact h1.symm
        · cases h
theorem ckThen_go {x : CkR} {f : Nat → CkS → CkR} {p : Nat} {t : CkS} (h : x.then f = .go p t) : ∃ q s, x = .go q s ∧ f q s = .go p t := by
  cases x with
  | bad n => cases h
  | go q s => exact ⟨q, s, rfl, h⟩
theorem ckThen_bad {x : CkR} {f : Nat → CkS → CkR} {n : Nat} (h : x.then f = .bad n) : x = .bad n ∨ ∃ q s, x = .go q s ∧ f q s = .bad n := by
  cases x with
  | bad m => exact .inl h
  | go q s => exact .inr ⟨q, s, rfl, h⟩
theorem unprops_go {c : Nat} {B : List UInt8} {pos p : Nat} {s t : CkS} (h : unprops c B pos s = .go p t) : pos ≤ p := by
  unfold unprops at h
  split at h
  · injection h with h1 _; omega
  · split at h
    · cases h
    · injection h with h1 _; omega
theorem unnew_go {c pos p : Nat} {s t : CkS} (h : unnew c pos s = .go p t) : pos ≤ p := by
  unfold unnew at h
  split at h
  · injection h with h1 _; omega
  · split at h
    · cases h
    · injection h with h1 _; omega
theorem unbytes_go {B : List UInt8} {many size : Nat} {dict : Int} {pos p : Nat} {s t : CkS} (h : unbytes B many size dict pos s = .go p t) : pos ≤ p := by
  unfold unbytes at h
  split at h
  · cases h
  · have := undecode_go h; omega
theorem unchunk_go {B : List UInt8} {dict : Int} {c pos p : Nat} {s t : CkS} (h : unchunkC B dict c pos s = .go p t) : pos ≤ p := by
  unfold unchunkC unchunk1 at h
  split at h
  · cases h
  · split at h
    · exact unstore_go h
    · split at h
      · cases h
      · unfold unpackC at h
        split at h
        · cases h
        · obtain ⟨q, x, h1, h2⟩ := ckThen_go h
          obtain ⟨q', x', h3, h4⟩ := ckThen_go h1
          have a1 := unprops_go h3
          have a2 := unnew_go h4
          have a3 := unbytes_go h2
          omega
theorem unchunk_bad {B : List UInt8} {dict : Int} {c pos n : Nat} {s : CkS} (h : unchunkC B dict c pos s = .bad n) : n = 2 ∨ n = 6 := by
  have two6 : ∀ {m : Nat}, CkR.bad m = .bad n → m = 2 ∨ m = 6 → n = 2 ∨ n = 6 := fun h hm => by injection h with h; omega
  unfold unchunkC unchunk1 at h
  split at h
  · exact two6 h (.inr rfl)
  · split at h
    · unfold unstore at h
      split at h
      · exact two6 h (.inl rfl)
      · split at h
        · exact two6 h (.inl rfl)
        · cases h
    · split at h
      · exact two6 h (.inr rfl)
      · unfold unpackC at h
        split at h
        · exact two6 h (.inl rfl)
        · rcases ckThen_bad h with h | ⟨q, x, _, h⟩
          · rcases ckThen_bad h with h | ⟨q, x, _, h⟩
            · unfold unprops at h
              split at h
              · cases h
              · split at h
                · exact two6 h (.inl rfl)
                · cases h
            · unfold unnew at h
              split at h
              · cases h
              · split at h
                · exact two6 h (.inr rfl)
                · cases h
          · unfold unbytes at h
            split at h
            · exact two6 h (.inl rfl)
            · unfold undecode at h
              split at h
              · exact two6 h (.inr rfl)
              · split at h
                · exact two6 h (.inr rfl)
                · unfold unmore at h
                  split at h
                  · exact two6 h (.inr rfl)
                  · split at h
                    · cases h
                    · exact two6 h (.inr rfl)
/-- What Read comes to. -/
def UcDone (w : World) (res : List UInt8 × Nat × Nat) (e : Ending) (w' : World) : Prop :=
  ∃ A c, e = .returned (.tuple #[.slice A res.1.length c, .int .i64 (res.2.1 : Nat), .int .i64 (res.2.2 : Nat)]) ∧ (res.1.length ≤ c ∧ c ≤ 9223372036854775807) ∧ Bytes w' A res.1 ∧ Below w.heap.size w w'
theorem UcDone.bad {w w' : World} {n : Nat} (h : Below w.heap.size w w') : UcDone w ([], 0, n) (.returned (.tuple #[.slice none 0 0, .int .i64 0, .int .i64 (n : Nat)])) w' :=
  ⟨none, 0, rfl, ⟨Nat.le_refl _, by decide⟩, .nil, h⟩
set_option maxHeartbeats 4000000 in
theorem ucread_small (A : Option Addr) (B : List UInt8) (c : Nat) (dict : Int) (w : World) (h : dict < 1) : Calls Try.prog 6 #[.slice A B.length c, .int .i64 dict] w (UcDone w ([], 0, 1)) := by
  have hb : decide (dict < 1) = true := decide_eq_true h
  generalize B.length = n
  go_enter Try.func6, Try.ntmps6
  go_wp2_with fail
  go_ret3
  exact UcDone.bad ((Below.refl _ _).alloc (Nat.le_refl _) _)
set_option maxHeartbeats 8000000 in
theorem ucread_any (A : Option Addr) (B : List UInt8) (c : Nat) (dict : Int) (w : World) (hB : Bytes w A B) (hA : ∀ a, A = some a → a.block < w.heap.size) (hc : B.length ≤ c) (hm : c ≤ 9223372036854775807) (hl : B.length ≤ 1000000000) (hd1 : 1 ≤ dict) (hd2 : dict ≤ 9223372036854775807) {fuel : Nat} (hf : B.length < fuel) (hsh : CkShort B dict fuel 0 ck0) :
    Calls Try.prog 6 #[.slice A B.length c, .int .i64 dict] w (UcDone w (unchunkAll B dict fuel 0 ck0)) := by
  obtain ⟨RES, hRES⟩ : ∃ R, unchunkAll B dict fuel 0 ck0 = R := ⟨_, rfl⟩
  rw [hRES]
  obtain ⟨W, hW⟩ : ∃ W, ((w.alloc (.cells #[.slice A B.length c] 22)).alloc (.cells #[.int .i64 0] 3)).alloc (.cells #[.int .i64 dict, .slice none 0 0, .int .i64 0, .bool false, .bool false, .int .i64 0, .int .i64 0, .int .i64 0, .pointer none] 43) = W := ⟨_, rfl⟩
  obtain ⟨bb, hbb⟩ : ∃ n, w.heap.size = n := ⟨_, rfl⟩
  obtain ⟨ab, hab⟩ : ∃ n, w.heap.size + 1 = n := ⟨_, rfl⟩
  obtain ⟨R, hR⟩ : ∃ n, w.heap.size + 1 + 1 = n := ⟨_, rfl⟩
  have hk0 : Uk ⟨w.heap.size, w, bb, ab, R, A, B, c, dict⟩ W 0 ck0 := by
    subst hbb; subst hab; subst hR
    have hb1 : Below w.heap.size w (w.alloc (.cells #[.slice A B.length c] 22)) := (Below.refl _ _).alloc (Nat.le_refl _) _
    have hb2 := hb1.alloc hb1.size (.cells #[.int .i64 0] 3)
    have hb3 := hb2.alloc hb2.size (.cells #[.int .i64 dict, .slice none 0 0, .int .i64 0, .bool false, .bool false, .int .i64 0, .int .i64 0, .int .i64 0, .pointer none] 43)
    rw [hW] at hb3
    refine ⟨.pointer none, ⟨?_, ?_, ⟨.slice none 0 0, ?_, Own.nil _ _⟩, ⟨Nat.le_refl _, by show w.heap.size ≤ w.heap.size + 1; omega, by show w.heap.size ≤ w.heap.size + 1 + 1; omega⟩, ⟨hB.below hb3, hA⟩, ⟨hc, hm, by show B.length ≤ _; omega, Nat.zero_le _, Nat.le_refl _⟩, hb3, Nat.le_refl _⟩, fun h _ => by cases h⟩
    · rw [← hW]
      refine (Below.heap_alloc _ _ _ (by simp; omega)).trans ((Below.heap_alloc _ _ _ (by simp)).trans (heap_alloc_last _ _))
    · rw [← hW]
      have e : (w.alloc (.cells #[.slice A B.length c] 22)).heap.size = w.heap.size + 1 := by simp
      refine (Below.heap_alloc _ _ _ (by simp)).trans ?_
      show ((w.alloc (.cells #[.slice A B.length c] 22)).alloc (.cells #[.int .i64 0] 3)).heap[w.heap.size + 1]? = _
      rw [← e]; exact heap_alloc_last _ _
    · rw [← hW]
      have e : ((w.alloc (.cells #[.slice A B.length c] 22)).alloc (.cells #[.int .i64 0] 3)).heap.size = w.heap.size + 1 + 1 := by simp
      show (((w.alloc (.cells #[.slice A B.length c] 22)).alloc (.cells #[.int .i64 0] 3)).alloc _).heap[w.heap.size + 1 + 1]? = _
      rw [← e]; exact heap_alloc_last _ _
  have HK0 := Lib.hid hk0
  have HW := Lib.hid hW
  have HNUM := Lib.hid (And.intro hbb (And.intro hab hR))
  have HD := Lib.hid (And.intro hd1 hd2)
  have HF := Lib.hid (And.intro hf (And.intro hsh hRES))
  have hdb : decide (dict < 1) = false := decide_eq_false (by omega)
  clear hbb hab hR hk0 hW hd1 hd2 hf hsh hRES hB hA hc hm hl
  go_enter Try.func6, Try.ntmps6
  go_wp2_with fail
  rw [HW.out, HNUM.out.2.2, HNUM.out.2.1, HNUM.out.1]
  go_loopg [] fuel (fun gk wr => ∃ (pos : Nat) (s : CkS), Hid (Uk ⟨w.heap.size, w, bb, ab, R, A, B, c, dict⟩ wr pos s) ∧ Hid (B.length < pos + gk ∧ CkShort B dict gk pos s ∧ unchunkAll B dict gk pos s = RES))
  case atStart => exact ⟨0, ck0, HK0, Lib.hid ⟨by have := HF.out.1; omega, HF.out.2⟩⟩
  case round =>
    obtain ⟨pos, s, HK, HT⟩ := hrel
    cases gk with
    | zero =>
      obtain ⟨cv, hU, _⟩ := HK.out
      have h1 := HT.out.1
      have h2 : pos ≤ B.length := hU.nums.2.2.2.1
      omega
    | succ gk =>
      by_cases h1 : B.length < pos + 1
      · have hres : ([], 0, 2) = RES := by have h := HT.out.2.2; unfold unchunkAll at h; rw [if_pos h1] at h; exact h
        have HR := Lib.hid hres
        have HN : Hid (Calls Try.prog 10 #[.int .i64 1, PF bb, PF ab] wr (NextShort wr)) := Lib.hid (next_short_uk (n := 1) HK.out (by decide) h1)
        clear hres h1
        go_wp2_with fail
        refine HN.out.mono ?_
        rintro e w1 ⟨rfl, rfl⟩
        go_wp2_with fail
        go_ret3
        rw [← HR.out]
        exact UcDone.bad HK.out.below
      · have HN : Hid (Calls Try.prog 10 #[.int .i64 1, PF bb, PF ab] wr _) := Lib.hid (next_good_uk (n := 1) HK.out (by decide) (by show pos + 1 ≤ B.length; omega))
        obtain ⟨x, hx⟩ : ∃ x, B.getD pos 0 = x := ⟨_, rfl⟩
        have hxl : x.toNat < 256 := x.toNat_lt
        have hxi : (x.toNat : Int) < 256 := by omega
        have HX := Lib.hid (And.intro h1 (And.intro hx hxl))
        clear hx hxl
        go_wp2_with fail
        refine HN.out.mono ?_
        rintro e w1 ⟨A1, c1, rfl, hc1, ⟨hB1, _⟩, hK1⟩
        have hl1 : ((B.drop pos).take 1).length = 1 := by simp; omega
        obtain ⟨b, off, rfl, hb, hcs⟩ := hB1.addr (show 0 < ((B.drop pos).take 1).length by omega)
        have k0 := hcs 0 (show 0 < ((B.drop pos).take 1).length by omega)
        have e0 : ((B.drop pos).take 1)[0] = x := by
          rw [← HX.out.2.1]
          simp [List.getElem_take, List.getD_eq_getElem?_getD, List.getElem?_eq_getElem (show pos < B.length by omega)]
        have k1 : w1.cell? ⟨b, off, none⟩ = some (.int .u8 (x.toNat : Nat)) := by rw [Nat.add_zero] at k0; rw [k0]; exact congrArg (fun z : UInt8 => some (B8 z)) e0
        have HK1 := Lib.hid hK1
        clear hc1 hB1 hK1 hl1 hcs k0 e0 hb h1
        by_cases hx0 : x.toNat = 0
        · have hres : (s.out, pos + 1, 0) = RES := by have h := HT.out.2.2; unfold unchunkAll at h; rw [if_neg HX.out.1, HX.out.2.1, if_pos hx0] at h; exact h
          have HR := Lib.hid hres
          have hx0b : ((x.toNat : Int) == 0) = true := by rw [hx0]; rfl
          have hx0i : (x.toNat : Int) = 0 := by omega
          obtain ⟨cv, hU, _⟩ := HK1.out
          obtain ⟨v, ⟨_, r1, _, _, _, _, _, _, _⟩, hov, _⟩ := hU.cells
          obtain ⟨AO, cO, rfl, hcO, hmO, hBO⟩ := hov.read
          obtain ⟨_, q1, _, _⟩ := hU.boxes
          have HU := Lib.hid (And.intro hU.below (And.intro hBO (And.intro hcO hmO)))
          clear hres hU hov hcO hmO hBO hx0
          go_wp2_with fail
          go_quiet (fail)
          go_wp2_with fail
          go_ret3
          rw [← HR.out]
          exact ⟨AO, cO, rfl, HU.out.2.2, HU.out.2.1, below_drewN HU.out.1 _⟩
        · have hx0b : ((x.toNat : Int) == 0) = false := beq_eq_false_iff_ne.2 (by omega)
          have hx0i : ¬ (x.toNat : Int) = 0 := by omega
          have hsh := HT.out.2.1
          have hun := HT.out.2.2
          unfold CkShort at hsh
          unfold unchunkAll at hun
          rw [if_neg HX.out.1, HX.out.2.1, if_neg hx0] at hun
          have hsh2 := hsh.2 (by have := HX.out.1; omega) (by rw [HX.out.2.1]; exact hx0)
          rw [HX.out.2.1] at hsh2
          have hch : Calls Try.prog 11 #[PF R, .int .u8 (x.toNat : Nat), .func (.func 10) #[] #[PF bb, PF ab]] w1 (CkDone ⟨w.heap.size, w, bb, ab, R, A, B, c, dict⟩ (unchunkC B dict x.toNat (pos + 1) s)) := ucchunk_any HK1.out x.toNat (by omega) HX.out.2.2 hsh.1 HD.out.1 HD.out.2
          cases hck : unchunkC B dict x.toNat (pos + 1) s with
          | bad n =>
            rw [hck] at hun hch
            have hn := unchunk_bad hck
            have hni : ¬ (n : Int) = 0 := by omega
            have hnb : ((n : Int) == 0) = false := beq_eq_false_iff_ne.2 hni
            have hnb2 : ((n : Int) != 0) = true := by rw [bne_iff_ne]; exact hni
            have HR : Hid (([], 0, n) = RES) := Lib.hid hun
            have HCH := Lib.hid hch
            clear hun hch hsh hsh2 hck hn hx0
            go_wp2_with fail
            refine HCH.out.mono ?_
            rintro e w2 ⟨rfl, hb2⟩
            have HB2 := Lib.hid hb2
            clear hb2
            go_wp2_with fail
            go_ret3
            rw [← HR.out]
            exact UcDone.bad HB2.out
          | go p t =>
            rw [hck] at hun hch hsh2
            have hp := unchunk_go hck
            have HCH := Lib.hid hch
            have HT2 : Hid (B.length < p + gk ∧ CkShort B dict gk p t ∧ unchunkAll B dict gk p t = RES) := Lib.hid ⟨by have := HT.out.1; omega, hsh2, hun⟩
            clear hun hch hsh hsh2 hck hp hx0
            go_wp2_with fail
            refine HCH.out.mono ?_
            rintro e w2 ⟨rfl, hk2⟩
            have HK2 := Lib.hid hk2
            clear hk2
            go_wp2_with fail
            go_roundg gk
            case measure => omega
            case rel => exact ⟨p, t, HK2, HT2⟩
end Go.Proofs.Ytkckjjchfccdjaa
