/- Several texts in one: UmMath, UmChain, ChkG, UcG. -/
import Derived.Test.YtkckjjchfccdjaaMg15
import Derived.Test.YtkckjjchfccdjaaMg14
/- Symbols read back to bytes: the mathematics. -/
namespace Go.Proofs.Ytkckjjchfccdjaa
set_option maxRecDepth 100000
open Go.RowKit

theorem mod_pow_drop {n cut p : Nat} (hp : p ≤ 4) (hc : cut % 16 = 0) (h : cut ≤ n) : (n - cut) % 2 ^ p = n % 2 ^ p := by
  obtain ⟨m, rfl⟩ : ∃ m, cut = 16 * m := ⟨cut / 16, by omega⟩
  have hd : (16 : Nat) = 2 ^ p * 2 ^ (4 - p) := by rw [← Nat.pow_add, show p + (4 - p) = 4 by omega]
  have e : n = (n - 16 * m) + 2 ^ p * (2 ^ (4 - p) * m) := by rw [← Nat.mul_assoc, ← hd]; omega
  conv => rhs; rw [e]
  rw [Nat.add_mul_mod_self_left]
theorem getD_drop {H : List UInt8} {cut i : Nat} : (H.drop cut).getD i 0 = H.getD (cut + i) 0 := by
  simp only [List.getD_eq_getElem?_getD, List.getElem?_drop]
theorem ctxN_trim {lc lp cut : Nat} {H : List UInt8} (hlp : lp ≤ 4) (hc : cut % 16 = 0) (h : cut < H.length) : ctxN lc lp (H.drop cut) = ctxN lc lp H := by
  unfold ctxN
  rw [List.length_drop, mod_pow_drop hlp hc (by omega), if_pos (by omega), if_pos (by omega), getD_drop, show cut + (H.length - cut - 1) = H.length - 1 by omega]
theorem likeN_trim {cut : Nat} {H : List UInt8} {a : Int} (ha : 1 ≤ a) (h : a ≤ ((H.length - cut : Nat) : Int)) (hc : cut < H.length) : Md.likeN (H.drop cut) a = Md.likeN H a := by
  unfold Md.likeN
  rw [List.length_drop, if_pos h, if_pos (by omega), getD_drop, show cut + (H.length - cut - a.toNat) = H.length - a.toNat by omega]
/-- A coder looks at no more of a history than this. -/
theorem sym_trim (io : Io) {lc lp pb st cut : Nat} {r : R4} {H : List UInt8} {k : Int} {b : UInt8} {l d q : Int} {x : io.S} (hlp : lp ≤ 4) (hpb : pb ≤ 4) (hr : 1 ≤ r.1) (h : cut = 0 ∨ (cut % 16 = 0 ∧ cut < H.length ∧ r.1 ≤ ((H.length - cut : Nat) : Int))) :
    Md.sym io lc lp pb st r (H.drop cut) k b l d q x = Md.sym io lc lp pb st r H k b l d q x := by
  rcases h with rfl | ⟨h1, h2, h3⟩
  · rfl
  · unfold Md.sym Md.lit
    rw [ctxN_trim hlp h1 h2, likeN_trim hr h3 h2, List.length_drop, mod_pow_drop hpb h1 (by omega)]
theorem growN_drop {H : List UInt8} {cut bk : Nat} (h0 : 1 ≤ bk) (h : cut + bk ≤ H.length) : ∀ l, (growN H bk l).drop cut = growN (H.drop cut) bk l
  | 0 => rfl
  | l + 1 => by
    have ih := growN_drop (cut := cut) h0 h l
    have hl := growN_length H bk l
    unfold growN
    rw [List.drop_append_of_le_length (by omega), ih, ← ih, List.length_drop, getD_drop, show cut + ((growN H bk l).length - cut - bk) = (growN H bk l).length - bk by omega]
/-- What is read: nothing, if it goes wrong. -/
def uread (gd o cap : Nat) (L : List UInt8) (lc lp pb : Nat) (dict : Int) (fin : Nat) : Nat → List UInt8 → Nat → R4 → PD → Option (List UInt8 × Nat × R4 × PD)
  | 0, T, st, r, y => if fin ≤ T.length then some (T, st, r, y) else none
  | f + 1, T, st, r, y =>
    if fin ≤ T.length then some (T, st, r, y)
    else if (Md.sym (decIo gd o cap L) lc lp pb st r T 0 0 0 0 0 y).2.2.2.2.out = true then none
    else if (Md.sym (decIo gd o cap L) lc lp pb st r T 0 0 0 0 0 y).1.k = 0 then uread gd o cap L lc lp pb dict fin f (T ++ [(Md.sym (decIo gd o cap L) lc lp pb st r T 0 0 0 0 0 y).1.b]) (Md.sym (decIo gd o cap L) lc lp pb st r T 0 0 0 0 0 y).2.1 (Md.sym (decIo gd o cap L) lc lp pb st r T 0 0 0 0 0 y).2.2.1 (Md.sym (decIo gd o cap L) lc lp pb st r T 0 0 0 0 0 y).2.2.2
    else if min (T.length : Int) dict < (Md.sym (decIo gd o cap L) lc lp pb st r T 0 0 0 0 0 y).2.2.1.1 ∨ fin - T.length < (Md.sym (decIo gd o cap L) lc lp pb st r T 0 0 0 0 0 y).1.l then none
    else uread gd o cap L lc lp pb dict fin f (growN T (Md.sym (decIo gd o cap L) lc lp pb st r T 0 0 0 0 0 y).2.2.1.1.toNat (Md.sym (decIo gd o cap L) lc lp pb st r T 0 0 0 0 0 y).1.l) (Md.sym (decIo gd o cap L) lc lp pb st r T 0 0 0 0 0 y).2.1 (Md.sym (decIo gd o cap L) lc lp pb st r T 0 0 0 0 0 y).2.2.1 (Md.sym (decIo gd o cap L) lc lp pb st r T 0 0 0 0 0 y).2.2.2
section
variable {gd o cap : Nat} {L : List UInt8} {lc lp pb : Nat} {dict : Int} {fin : Nat}
theorem uread_end {f : Nat} {T : List UInt8} {st : Nat} {r : R4} {y : PD} (h : fin ≤ T.length) : uread gd o cap L lc lp pb dict fin f T st r y = some (T, st, r, y) := by
  cases f <;> (unfold uread; rw [if_pos h])
theorem uread_out {f : Nat} {T : List UInt8} {st : Nat} {r : R4} {y y' : PD} {s : Sy} {st' : Nat} {r' : R4} (h : T.length < fin) (hs : Md.sym (decIo gd o cap L) lc lp pb st r T 0 0 0 0 0 y = (s, st', r', y')) (ho : y'.2.out = true) : uread gd o cap L lc lp pb dict fin f T st r y = none := by
  cases f with
  | zero => unfold uread; rw [if_neg (by omega)]
  | succ f => unfold uread; rw [if_neg (by omega), hs, if_pos ho]
theorem uread_lit {f : Nat} {T : List UInt8} {st : Nat} {r : R4} {y y' : PD} {s : Sy} {st' : Nat} {r' : R4} (h : T.length < fin) (hs : Md.sym (decIo gd o cap L) lc lp pb st r T 0 0 0 0 0 y = (s, st', r', y')) (ho : y'.2.out = false) (hk : s.k = 0) : uread gd o cap L lc lp pb dict fin (f + 1) T st r y = uread gd o cap L lc lp pb dict fin f (T ++ [s.b]) st' r' y' := by
  conv => lhs; unfold uread
  rw [if_neg (by omega), hs, if_neg (by rw [ho]; decide), if_pos hk]
theorem uread_bad {f : Nat} {T : List UInt8} {st : Nat} {r : R4} {y y' : PD} {s : Sy} {st' : Nat} {r' : R4} (h : T.length < fin) (hs : Md.sym (decIo gd o cap L) lc lp pb st r T 0 0 0 0 0 y = (s, st', r', y')) (hk : s.k ≠ 0) (hb : min (T.length : Int) dict < r'.1 ∨ fin - T.length < s.l) : uread gd o cap L lc lp pb dict fin f T st r y = none := by
  cases f with
  | zero => unfold uread; rw [if_neg (by omega)]
  | succ f =>
    unfold uread
    rw [if_neg (by omega), hs]
    by_cases ho : y'.2.out = true
    · rw [if_pos ho]
    · rw [if_neg ho, if_neg hk, if_pos hb]
theorem uread_far {f : Nat} {T : List UInt8} {st : Nat} {r : R4} {y y' : PD} {s : Sy} {st' : Nat} {r' : R4} (h : T.length < fin) (hs : Md.sym (decIo gd o cap L) lc lp pb st r T 0 0 0 0 0 y = (s, st', r', y')) (ho : y'.2.out = false) (hk : s.k ≠ 0) (hb : ¬ (min (T.length : Int) dict < r'.1 ∨ fin - T.length < s.l)) : uread gd o cap L lc lp pb dict fin (f + 1) T st r y = uread gd o cap L lc lp pb dict fin f (growN T r'.1.toNat s.l) st' r' y' := by
  conv => lhs; unfold uread
  rw [if_neg (by omega), hs, if_neg (by rw [ho]; decide), if_neg hk, if_neg hb]
end
end Go.Proofs.Ytkckjjchfccdjaa

/- What was coded is read back to bytes, or goes wrong where it should. -/
namespace Go.Proofs.Ytkckjjchfccdjaa
set_option maxRecDepth 100000
open Go.RowKit

def rPos (r : R4) : Prop := 1 ≤ r.1 ∧ 1 ≤ r.2.1 ∧ 1 ≤ r.2.2.1 ∧ 1 ≤ r.2.2.2
theorem rPos.at {r : R4} (h : rPos r) (n : Nat) : 1 ≤ r4 r.1 r.2.1 r.2.2.1 r.2.2.2 n := by
  obtain ⟨a, b, c, d⟩ := h
  match n with
  | 0 => exact a
  | 1 => exact b
  | 2 => exact c
  | n + 3 => exact d
theorem rPos.front {r : R4} (h : rPos r) {n : Nat} {d : Int} (h1 : 1 ≤ d) : rPos (frontR r n d) := by
  obtain ⟨a, b, c, e⟩ := h
  match n with
  | 0 => exact ⟨h1, b, c, e⟩
  | 1 => exact ⟨h1, a, c, e⟩
  | 2 => exact ⟨h1, a, b, e⟩
  | n + 3 => exact ⟨h1, a, b, c⟩
theorem dist_pos (io : Io) (l : Nat) (dd : Int) (x : io.S) : 1 ≤ (Md.dist io l dd x).1 := by
  unfold Md.dist
  simp only
  split
  · exact Nat.le_add_left _ _
  · split
    · exact Nat.le_add_left _ _
    · exact Nat.le_add_left _ _
theorem sym_rpos {io : Io} {lc lp pb st : Nat} {r : R4} {H : List UInt8} {k l d q : Int} {b : UInt8} {x : io.S} (h : rPos r) : rPos (Md.sym io lc lp pb st r H k b l d q x).2.2.1 := by
  unfold Md.sym
  simp only
  split
  · exact h
  · split
    · exact h.front (by have := dist_pos io (Md.len io 432 (H.length % 2 ^ pb) l (io.bitAt (192 + st) (k != 1) (io.bitAt (16 * st + H.length % 2 ^ pb) (k != 0) x).2).2).1 d (Md.len io 432 (H.length % 2 ^ pb) l (io.bitAt (192 + st) (k != 1) (io.bitAt (16 * st + H.length % 2 ^ pb) (k != 0) x).2).2).2; omega)
    · exact h.front (h.at _)
theorem len_pos (io : Io) (A p : Nat) (l : Int) (x : io.S) : 1 ≤ (Md.len io A p l x).1 := by
  unfold Md.len
  simp only
  split
  · omega
  · split
    · omega
    · omega
theorem rept_pos (io : Io) (st p : Nat) (l q : Int) (x : io.S) : 1 ≤ (Md.rept io st p l q x).1.2 := by
  unfold Md.rept
  simp only
  split
  · split
    · exact Nat.le_refl 1
    · exact len_pos _ _ _ _ _
  · exact len_pos _ _ _ _ _
theorem sym_lpos {io : Io} {lc lp pb st : Nat} {r : R4} {H : List UInt8} {k l d q : Int} {b : UInt8} {x : io.S} (h : (Md.sym io lc lp pb st r H k b l d q x).1.k ≠ 0) : 1 ≤ (Md.sym io lc lp pb st r H k b l d q x).1.l := by
  revert h
  unfold Md.sym
  simp only
  split
  · intro h; exact absurd rfl h
  · split
    · intro _; exact len_pos _ _ _ _ _
    · intro _; exact rept_pos _ _ _ _ _ _
/-- It is the same to read behind a history's end. -/
theorem uread_trim {gd o cap : Nat} {L : List UInt8} {lc lp pb cut : Nat} {dict : Int} {fin : Nat} (hlp : lp ≤ 4) (hpb : pb ≤ 4) : ∀ (f : Nat) (H : List UInt8) (st : Nat) (r : R4) (y : PD), rPos r → (cut = 0 ∨ (cut % 16 = 0 ∧ cut < H.length ∧ r.1 ≤ ((H.length - cut : Nat) : Int) ∧ dict ≤ ((H.length - cut : Nat) : Int))) →
    uread gd o cap L lc lp pb dict fin f (H.drop cut) st r y = (uread gd o cap L lc lp pb dict (fin + cut) f H st r y).map fun q => (q.1.drop cut, q.2) := by
  intro f
  induction f with
  | zero =>
    intro H st r y hr hc
    have hl : (H.drop cut).length = H.length - cut := List.length_drop
    have hcl : cut ≤ H.length := by omega
    unfold uread
    by_cases h : fin ≤ H.length - cut
    · rw [if_pos (by rw [hl]; exact h), if_pos (by omega)]; rfl
    · rw [if_neg (by rw [hl]; exact h), if_neg (by omega)]; rfl
  | succ f ih =>
    intro H st r y hr hc
    have hl : (H.drop cut).length = H.length - cut := List.length_drop
    have hcl : cut ≤ H.length := by omega
    have hs := sym_trim (decIo gd o cap L) (lc := lc) (lp := lp) (pb := pb) (st := st) (cut := cut) (r := r) (H := H) (k := 0) (b := 0) (l := 0) (d := 0) (q := 0) (x := y) hlp hpb hr.1 (by omega)
    obtain ⟨⟨s, st', r', y'⟩, ht⟩ : ∃ t, Md.sym (decIo gd o cap L) lc lp pb st r H 0 0 0 0 0 y = t := ⟨_, rfl⟩
    have hr' : rPos r' := by have := sym_rpos (io := decIo gd o cap L) (lc := lc) (lp := lp) (pb := pb) (st := st) (H := H) (k := 0) (l := 0) (d := 0) (q := 0) (b := 0) (x := y) hr; rw [ht] at this; exact this
    rw [ht] at hs
    by_cases h : fin ≤ H.length - cut
    · rw [uread_end (by rw [hl]; exact h), uread_end (by omega)]; rfl
    · have h1 : (H.drop cut).length < fin := by rw [hl]; omega
      have h2 : H.length < fin + cut := by omega
      by_cases ho : y'.2.out = true
      · rw [uread_out h1 hs ho, uread_out h2 ht ho]; rfl
      · have ho' : y'.2.out = false := by simpa using ho
        by_cases hk : s.k = 0
        · rw [uread_lit h1 hs ho' hk, uread_lit h2 ht ho' hk]
          have e : H.drop cut ++ [s.b] = (H ++ [s.b]).drop cut := by rw [List.drop_append_of_le_length hcl]
          rw [e]
          refine ih (H ++ [s.b]) st' r' y' hr' ?_
          rcases hc with hc | ⟨c1, c2, c3, c4⟩
          · exact .inl hc
          · have e2 : r' = r := by
              have hz : (Md.sym (decIo gd o cap L) lc lp pb st r H 0 0 0 0 0 y).1.k = 0 → (Md.sym (decIo gd o cap L) lc lp pb st r H 0 0 0 0 0 y).2.2.1 = r := by
                unfold Md.sym
                simp only
                split
                · intro _; rfl
                · split
                  · intro h; simp at h
                  · intro h; simp at h
              rw [ht] at hz
              exact hz hk
            rw [e2]
            refine .inr ⟨c1, ?_, ?_, ?_⟩ <;> rw [List.length_append, List.length_singleton] <;> omega
        · by_cases hb : min ((H.drop cut).length : Int) dict < r'.1 ∨ fin - (H.drop cut).length < s.l
          · have hb2 : min (H.length : Int) dict < r'.1 ∨ fin + cut - H.length < s.l := by rw [hl] at hb; omega
            rw [uread_bad h1 hs hk hb, uread_bad h2 ht hk hb2]; rfl
          · have hb2 : ¬ (min (H.length : Int) dict < r'.1 ∨ fin + cut - H.length < s.l) := by rw [hl] at hb; omega
            rw [uread_far h1 hs ho' hk hb, uread_far h2 ht ho' hk hb2]
            have h1r := hr'.1
            rw [hl] at hb
            rw [← growN_drop (by omega) (by omega)]
            have hgl := growN_length H r'.1.toNat s.l
            refine ih (growN H r'.1.toNat s.l) st' r' y' hr' ?_
            rcases hc with hc | ⟨c1, c2, c3, c4⟩
            · exact .inl hc
            · refine .inr ⟨c1, ?_, ?_, ?_⟩ <;> rw [hgl] <;> omega
section
variable {g lc lp pb : Nat} {ss : List Sy} {M : Nat → MSt} {L : List UInt8} {gd o cap : Nat} {dict : Int} {fin : Nat}
theorem Link.front {a b : MSt} {s : Sy} (h : Link g lc lp pb a s b) (hk : s.k ≠ 0) : b.r.1 = distZ a.r (s.k : Nat) (s.d : Nat) (s.r : Nat) := by
  rw [h.r]
  have h2 := h.k
  have h3 := h.q
  rcases (by omega : s.k = 1 ∨ s.k = 2) with e | e
  · rw [e]; simp [repsAfter, distZ]
  · rw [e]
    rcases (by omega : s.r = 0 ∨ s.r = 1 ∨ s.r = 2 ∨ s.r = 3) with e | e | e | e <;> rw [e] <;> simp [repsAfter, distZ, rAt, r4]
theorem Link.grows {a b : MSt} {s : Sy} (h : Link g lc lp pb a s b) : b.H.length = a.H.length + (if s.k = 0 then 1 else s.l) := by
  obtain ⟨bk, _, _, hH⟩ := h.hist
  rw [hH]
  unfold growS
  by_cases hk : s.k = 0
  · rw [if_pos (by omega), if_pos hk]; simp
  · rw [if_neg (by omega), if_neg hk, growN_length]
theorem Chain.longer (h : Chain g lc lp pb ss M) : ∀ d t, t + d ≤ ss.length → (M t).H.length + d ≤ (M (t + d)).H.length
  | 0, _, _ => Nat.le_refl _
  | d + 1, t, ht => by
    have h1 := h.longer d t (by omega)
    have hl := h (t + d) (by omega)
    have h2 := hl.grows
    have h3 := hl.pos
    show (M t).H.length + (d + 1) ≤ (M (t + d + 1)).H.length
    split at h2
    · omega
    · rename_i hk; have := h3 hk; omega
/-- So far it is read as it was coded. -/
theorem Chain.reads (h : Chain g lc lp pb ss M) (h0 : Fair (M 0).x.1) (hok : (M ss.length).x.2.ok) (hL : L = Rc.be (5 + (M ss.length).x.2.k) (M ss.length).x.2.v) {y : PD} (hs : Sim (M ss.length).x.2 L (M 0).x y) :
    ∀ t, (ht : t ≤ ss.length) → (∀ i (hi : i < t), (M (i + 1)).H.length ≤ fin ∧ (ss[i].k ≠ 0 → distZ (M i).r (ss[i].k : Nat) (ss[i].d : Nat) (ss[i].r : Nat) ≤ dict)) →
      ∃ y', Sim (M ss.length).x.2 L (M t).x y' ∧ ∀ f, uread gd o cap L lc lp pb dict fin (f + t) (M 0).H (M 0).st (M 0).r y = uread gd o cap L lc lp pb dict fin f (M t).H (M t).st (M t).r y' := by
  intro t
  induction t with
  | zero => intro _ _; exact ⟨y, hs, fun f => rfl⟩
  | succ t ih =>
    intro ht hc
    obtain ⟨y1, hs1, hf1⟩ := ih (by omega) (fun i hi => hc i (by omega))
    obtain ⟨z, hz, hsz⟩ := h.back h0 hok hL gd o cap (show t < ss.length by omega) hs1
    obtain ⟨c1, c2⟩ := hc t (by omega)
    have hl := h t (by omega)
    obtain ⟨bk, hbk, hbk1, hH⟩ := hl.hist
    have hin := (h.inside h0 (ss.length - (t + 1)) (t + 1) (by omega)).1
    have hout : z.2.out = false := by
      have := hsz.2.1 (by rw [hL, Rc.be_length]; omega)
      rw [this]
    have hg := hl.grows
    have hp := hl.pos
    refine ⟨z, hsz, fun f => ?_⟩
    rw [show f + (t + 1) = (f + 1) + t by omega, hf1 (f + 1)]
    by_cases hk : ss[t].k = 0
    · rw [if_pos hk] at hg
      rw [uread_lit (by omega) hz hout hk]
      have e : (M t).H ++ [ss[t].b] = (M (t + 1)).H := by rw [hH]; unfold growS; rw [if_pos (by omega)]
      rw [e]
    · rw [if_neg hk] at hg
      have hfr := hl.front hk
      have hk' : ((ss[t].k : Nat) : Int) ≠ 0 := by omega
      have hb1 := hbk1 hk'
      have hdd := c2 hk
      have hp1 := hp hk
      rw [uread_far (by omega) hz hout hk (by rw [hfr, hbk] ; rw [hbk] at hdd; omega)]
      have e : growN (M t).H (M (t + 1)).r.1.toNat ss[t].l = (M (t + 1)).H := by rw [hH, hfr, hbk]; unfold growS; rw [if_neg hk', Int.toNat_natCast]
      rw [e]
theorem Chain.fails (h : Chain g lc lp pb ss M) (h0 : Fair (M 0).x.1) (hok : (M ss.length).x.2.ok) (hL : L = Rc.be (5 + (M ss.length).x.2.k) (M ss.length).x.2.v) {y : PD} {t : Nat} (ht : t < ss.length) (hs : Sim (M ss.length).x.2 L (M t).x y) (h1 : (M t).H.length < fin) (hk : ss[t].k ≠ 0) (hb : dict < distZ (M t).r (ss[t].k : Nat) (ss[t].d : Nat) (ss[t].r : Nat) ∨ fin - (M t).H.length < ss[t].l) (f : Nat) :
    uread gd o cap L lc lp pb dict fin f (M t).H (M t).st (M t).r y = none := by
  obtain ⟨z, hz, hsz⟩ := h.back h0 hok hL gd o cap ht hs
  have hfr := (h t ht).front hk
  exact uread_bad h1 hz hk (by rw [hfr]; omega)
end
end Go.Proofs.Ytkckjjchfccdjaa

/- What is coded does not hang on where the coder of bits lies. -/
namespace Go.Proofs.Ytkckjjchfccdjaa
set_option maxRecDepth 100000
open Go.RowKit

/-- The coder of bits, and the chances. -/
abbrev EncS : Type := (Nat → Nat) × Rc.St
theorem not_false {b : Bool} (h : b = true) : ¬ b = false := fun e => Bool.noConfusion (h.symm.trans e)
theorem treeGo_g (g at_ : Nat) (v : Int) : ∀ (n m : Nat) (x : EncS), Md.treeGo (encIo g) at_ v n m x = Md.treeGo (encIo 0) at_ v n m x
  | 0, _, _ => rfl
  | n + 1, m, x => treeGo_g g at_ v n (2 * m + ((encIo 0).bitAt (at_ + m) (Md.bitOf v n) x).1.toNat) ((encIo 0).bitAt (at_ + m) (Md.bitOf v n) x).2
theorem tree_g (g at_ n : Nat) (v : Int) (x : EncS) : Md.tree (encIo g) at_ n v x = Md.tree (encIo 0) at_ n v x :=
  congrArg (fun y : Nat × EncS => (y.1 - 2 ^ n, y.2)) (treeGo_g g at_ v n 1 x)
theorem revGo_g (g at_ : Nat) (v : Int) : ∀ (k i m a : Nat) (x : EncS), Md.revGo (encIo g) at_ v k i m a x = Md.revGo (encIo 0) at_ v k i m a x
  | 0, _, _, _, _ => rfl
  | k + 1, i, m, a, x => revGo_g g at_ v k (i + 1) (2 * m + ((encIo 0).bitAt (at_ + m) (Md.bitOf v i) x).1.toNat) (a + ((encIo 0).bitAt (at_ + m) (Md.bitOf v i) x).1.toNat * 2 ^ i) ((encIo 0).bitAt (at_ + m) (Md.bitOf v i) x).2
theorem rev_g (g at_ n : Nat) (v : Int) (x : EncS) : Md.rev (encIo g) at_ n v x = Md.rev (encIo 0) at_ n v x := revGo_g g at_ v n 0 1 0 x
theorem len_g (g A p : Nat) (l : Int) (x : EncS) : Md.len (encIo g) A p l x = Md.len (encIo 0) A p l x := by
  cases h1 : ((encIo 0).bitAt A (decide (8 ≤ l - 2)) x).1 with
  | false => exact (show Md.len (encIo g) A p l x = _ from if_pos h1).trans ((congrArg (fun y : Nat × EncS => (2 + y.1, y.2)) (tree_g g (A + 2 + 8 * p) 3 (l - 2) _)).trans (show Md.len (encIo 0) A p l x = _ from if_pos h1).symm)
  | true =>
    cases h2 : ((encIo 0).bitAt (A + 1) (decide (16 ≤ l - 2)) ((encIo 0).bitAt A (decide (8 ≤ l - 2)) x).2).1 with
    | false => exact (show Md.len (encIo g) A p l x = _ from (if_neg (not_false h1)).trans (if_pos h2)).trans ((congrArg (fun y : Nat × EncS => (10 + y.1, y.2)) (tree_g g (A + 130 + 8 * p) 3 (l - 2 - 8) _)).trans (show Md.len (encIo 0) A p l x = _ from (if_neg (not_false h1)).trans (if_pos h2)).symm)
    | true => exact (show Md.len (encIo g) A p l x = _ from (if_neg (not_false h1)).trans (if_neg (not_false h2))).trans ((congrArg (fun y : Nat × EncS => (18 + y.1, y.2)) (tree_g g (A + 258) 8 (l - 2 - 16) _)).trans (show Md.len (encIo 0) A p l x = _ from (if_neg (not_false h1)).trans (if_neg (not_false h2))).symm)
/-- The distance's bits behind its slot. -/
def distTail (io : Io) (d : Nat) (y : Nat × io.S) : Nat × io.S :=
  if y.1 < 4 then (y.1 + 1, y.2)
  else if y.1 < 14 then ((2 + y.1 % 2) * 2 ^ (y.1 / 2 - 1) + (Md.rev io (1716 + 32 * y.1) (y.1 / 2 - 1) (d : Nat) y.2).1 + 1, (Md.rev io (1716 + 32 * y.1) (y.1 / 2 - 1) (d : Nat) y.2).2)
  else ((2 + y.1 % 2) * 2 ^ (y.1 / 2 - 1) + (io.plain y.2.2 (d / 16 % 2 ^ (y.1 / 2 - 1 - 4)) (y.1 / 2 - 1 - 4)).1 % 2 ^ (y.1 / 2 - 1 - 4) * 16 + (Md.rev io 2164 4 (d : Nat) (y.2.1, (io.plain y.2.2 (d / 16 % 2 ^ (y.1 / 2 - 1 - 4)) (y.1 / 2 - 1 - 4)).2)).1 + 1, (Md.rev io 2164 4 (d : Nat) (y.2.1, (io.plain y.2.2 (d / 16 % 2 ^ (y.1 / 2 - 1 - 4)) (y.1 / 2 - 1 - 4)).2)).2)
theorem distTail_g (g d : Nat) (y : Nat × EncS) : distTail (encIo g) d y = distTail (encIo 0) d y := by
  by_cases h1 : y.1 < 4
  · exact (show distTail (encIo g) d y = _ from if_pos h1).trans (show distTail (encIo 0) d y = _ from if_pos h1).symm
  · by_cases h2 : y.1 < 14
    · exact (show distTail (encIo g) d y = _ from (if_neg h1).trans (if_pos h2)).trans ((congrArg (fun z : Nat × EncS => ((2 + y.1 % 2) * 2 ^ (y.1 / 2 - 1) + z.1 + 1, z.2)) (rev_g g (1716 + 32 * y.1) (y.1 / 2 - 1) (d : Nat) y.2)).trans (show distTail (encIo 0) d y = _ from (if_neg h1).trans (if_pos h2)).symm)
    · exact (show distTail (encIo g) d y = _ from (if_neg h1).trans (if_neg h2)).trans ((congrArg (fun z : Nat × EncS => ((2 + y.1 % 2) * 2 ^ (y.1 / 2 - 1) + ((encIo 0).plain y.2.2 (d / 16 % 2 ^ (y.1 / 2 - 1 - 4)) (y.1 / 2 - 1 - 4)).1 % 2 ^ (y.1 / 2 - 1 - 4) * 16 + z.1 + 1, z.2)) (rev_g g 2164 4 (d : Nat) (y.2.1, ((encIo 0).plain y.2.2 (d / 16 % 2 ^ (y.1 / 2 - 1 - 4)) (y.1 / 2 - 1 - 4)).2))).trans (show distTail (encIo 0) d y = _ from (if_neg h1).trans (if_neg h2)).symm)
theorem dist_tail (io : Io) (l : Nat) (dd : Int) (x : io.S) : Md.dist io l dd x = distTail io ((dd - 1) % 4294967296).toNat (Md.tree io (1460 + 64 * min (l - 2) 3) 6 (slotN ((dd - 1) % 4294967296).toNat : Nat) x) := rfl
theorem dist_g (g l : Nat) (d : Int) (x : EncS) : Md.dist (encIo g) l d x = Md.dist (encIo 0) l d x :=
  (dist_tail (encIo g) l d x).trans ((distTail_g g _ _).trans ((congrArg (fun y => distTail (encIo 0) ((d - 1) % 4294967296).toNat y) (tree_g g _ 6 _ x)).trans (dist_tail (encIo 0) l d x).symm))
theorem litGo_g (g T like : Nat) (v : Int) : ∀ (n m : Nat) (al : Bool) (x : EncS), Md.litGo (encIo g) T like v n m al x = Md.litGo (encIo 0) T like v n m al x
  | 0, _, _, _ => rfl
  | n + 1, _, _, _ => litGo_g g T like v n _ _ _
theorem lit_g (g lc lp st : Nat) (a : Int) (H : List UInt8) (v : Int) (x : EncS) : Md.lit (encIo g) lc lp st a H v x = Md.lit (encIo 0) lc lp st a H v x :=
  congrArg (fun y : Nat × EncS => (UInt8.ofNat y.1, y.2)) (litGo_g g _ _ v 8 1 _ x)
/-- A repeat's bits behind its number. -/
def reptTail (io : Io) (st p : Nat) (l : Int) (w : Nat × io.S) : (Nat × Nat) × io.S :=
  if w.1 = 0 then
    if (io.bitAt (240 + 16 * st + p) (l != 1) w.2).1 = false then ((0, 1), (io.bitAt (240 + 16 * st + p) (l != 1) w.2).2)
    else ((0, (Md.len io 946 p l (io.bitAt (240 + 16 * st + p) (l != 1) w.2).2).1), (Md.len io 946 p l (io.bitAt (240 + 16 * st + p) (l != 1) w.2).2).2)
  else ((w.1, (Md.len io 946 p l w.2).1), (Md.len io 946 p l w.2).2)
theorem reptTail_g (g st p : Nat) (l : Int) (w : Nat × EncS) : reptTail (encIo g) st p l w = reptTail (encIo 0) st p l w := by
  by_cases h1 : w.1 = 0
  · cases h2 : ((encIo 0).bitAt (240 + 16 * st + p) (l != 1) w.2).1 with
    | false => exact (show reptTail (encIo g) st p l w = _ from (if_pos h1).trans (if_pos h2)).trans (show reptTail (encIo 0) st p l w = _ from (if_pos h1).trans (if_pos h2)).symm
    | true => exact (show reptTail (encIo g) st p l w = _ from (if_pos h1).trans (if_neg (not_false h2))).trans ((congrArg (fun z : Nat × EncS => ((0, z.1), z.2)) (len_g g 946 p l ((encIo 0).bitAt (240 + 16 * st + p) (l != 1) w.2).2)).trans (show reptTail (encIo 0) st p l w = _ from (if_pos h1).trans (if_neg (not_false h2))).symm)
  · exact (show reptTail (encIo g) st p l w = _ from if_neg h1).trans ((congrArg (fun z : Nat × EncS => ((w.1, z.1), z.2)) (len_g g 946 p l w.2)).trans (show reptTail (encIo 0) st p l w = _ from if_neg h1).symm)
theorem rept_g (g st p : Nat) (l q : Int) (x : EncS) : Md.rept (encIo g) st p l q x = Md.rept (encIo 0) st p l q x := reptTail_g g st p l (Md.which (encIo 0) st q x)
theorem sym_g (g lc lp pb st : Nat) (r : R4) (H : List UInt8) (k : Int) (b : UInt8) (l d q : Int) (x : EncS) : Md.sym (encIo g) lc lp pb st r H k b l d q x = Md.sym (encIo 0) lc lp pb st r H k b l d q x := by
  cases h1 : ((encIo 0).bitAt (16 * st + H.length % 2 ^ pb) (k != 0) x).1 with
  | false => exact (show Md.sym (encIo g) lc lp pb st r H k b l d q x = _ from if_pos h1).trans ((congrArg (fun z : UInt8 × EncS => ((⟨0, z.1, 0, 0, 0⟩ : Sy), litState st, r, z.2)) (lit_g g lc lp st r.1 H (b.toNat : Nat) ((encIo 0).bitAt (16 * st + H.length % 2 ^ pb) (k != 0) x).2)).trans (show Md.sym (encIo 0) lc lp pb st r H k b l d q x = _ from if_pos h1).symm)
  | true =>
    cases h2 : ((encIo 0).bitAt (192 + st) (k != 1) ((encIo 0).bitAt (16 * st + H.length % 2 ^ pb) (k != 0) x).2).1 with
    | false =>
      refine (show Md.sym (encIo g) lc lp pb st r H k b l d q x = _ from (if_neg (not_false h1)).trans (if_pos h2)).trans (Eq.trans ?_ (show Md.sym (encIo 0) lc lp pb st r H k b l d q x = _ from (if_neg (not_false h1)).trans (if_pos h2)).symm)
      have e1 := len_g g 432 (H.length % 2 ^ pb) l ((encIo 0).bitAt (192 + st) (k != 1) ((encIo 0).bitAt (16 * st + H.length % 2 ^ pb) (k != 0) x).2).2
      have e2 := fun (n : Nat × EncS) => dist_g g n.1 d n.2
      exact (congrArg (fun n : Nat × EncS => ((⟨1, 0, n.1, (Md.dist (encIo g) n.1 d n.2).1, 0⟩ : Sy), (if st < 7 then 7 else 10), frontR r 3 ((Md.dist (encIo g) n.1 d n.2).1 : Nat), (Md.dist (encIo g) n.1 d n.2).2)) e1).trans (congrArg (fun z : Nat × EncS => ((⟨1, 0, (Md.len (encIo 0) 432 (H.length % 2 ^ pb) l ((encIo 0).bitAt (192 + st) (k != 1) ((encIo 0).bitAt (16 * st + H.length % 2 ^ pb) (k != 0) x).2).2).1, z.1, 0⟩ : Sy), (if st < 7 then 7 else 10), frontR r 3 (z.1 : Nat), z.2)) (e2 _))
    | true =>
      refine (show Md.sym (encIo g) lc lp pb st r H k b l d q x = _ from (if_neg (not_false h1)).trans (if_neg (not_false h2))).trans (Eq.trans ?_ (show Md.sym (encIo 0) lc lp pb st r H k b l d q x = _ from (if_neg (not_false h1)).trans (if_neg (not_false h2))).symm)
      exact congrArg (fun z : (Nat × Nat) × EncS => ((⟨2, 0, z.1.2, 0, z.1.1⟩ : Sy), (if st < 7 then (if z.1.2 = 1 then 9 else 8) else 11), frontR r z.1.1 (r4 r.1 r.2.1 r.2.2.1 r.2.2.2 z.1.1), z.2)) (rept_g g st (H.length % 2 ^ pb) l q ((encIo 0).bitAt (192 + st) (k != 1) ((encIo 0).bitAt (16 * st + H.length % 2 ^ pb) (k != 0) x).2).2)
end Go.Proofs.Ytkckjjchfccdjaa

/- What is decoded does not hang on where the decoder lies. -/
namespace Go.Proofs.Ytkckjjchfccdjaa
set_option maxRecDepth 100000
open Go.RowKit

theorem treeGo_a (gd o cap : Nat) (L : List UInt8) (at_ : Nat) (v : Int) : ∀ (n m : Nat) (x : PD), Md.treeGo (decIo gd o cap L) at_ v n m x = Md.treeGo (decIo 0 0 0 L) at_ v n m x
  | 0, _, _ => rfl
  | n + 1, m, x => treeGo_a gd o cap L at_ v n (2 * m + ((decIo 0 0 0 L).bitAt (at_ + m) (Md.bitOf v n) x).1.toNat) ((decIo 0 0 0 L).bitAt (at_ + m) (Md.bitOf v n) x).2
theorem tree_a (gd o cap : Nat) (L : List UInt8) (at_ n : Nat) (v : Int) (x : PD) : Md.tree (decIo gd o cap L) at_ n v x = Md.tree (decIo 0 0 0 L) at_ n v x :=
  congrArg (fun y : Nat × PD => (y.1 - 2 ^ n, y.2)) (treeGo_a gd o cap L at_ v n 1 x)
theorem revGo_a (gd o cap : Nat) (L : List UInt8) (at_ : Nat) (v : Int) : ∀ (k i m a : Nat) (x : PD), Md.revGo (decIo gd o cap L) at_ v k i m a x = Md.revGo (decIo 0 0 0 L) at_ v k i m a x
  | 0, _, _, _, _ => rfl
  | k + 1, i, m, a, x => revGo_a gd o cap L at_ v k (i + 1) (2 * m + ((decIo 0 0 0 L).bitAt (at_ + m) (Md.bitOf v i) x).1.toNat) (a + ((decIo 0 0 0 L).bitAt (at_ + m) (Md.bitOf v i) x).1.toNat * 2 ^ i) ((decIo 0 0 0 L).bitAt (at_ + m) (Md.bitOf v i) x).2
theorem rev_a (gd o cap : Nat) (L : List UInt8) (at_ n : Nat) (v : Int) (x : PD) : Md.rev (decIo gd o cap L) at_ n v x = Md.rev (decIo 0 0 0 L) at_ n v x := revGo_a gd o cap L at_ v n 0 1 0 x
theorem len_a (gd o cap : Nat) (L : List UInt8) (A p : Nat) (l : Int) (x : PD) : Md.len (decIo gd o cap L) A p l x = Md.len (decIo 0 0 0 L) A p l x := by
  cases h1 : ((decIo 0 0 0 L).bitAt A (decide (8 ≤ l - 2)) x).1 with
  | false => exact (show Md.len (decIo gd o cap L) A p l x = _ from if_pos h1).trans ((congrArg (fun y : Nat × PD => (2 + y.1, y.2)) (tree_a gd o cap L (A + 2 + 8 * p) 3 (l - 2) _)).trans (show Md.len (decIo 0 0 0 L) A p l x = _ from if_pos h1).symm)
  | true =>
    cases h2 : ((decIo 0 0 0 L).bitAt (A + 1) (decide (16 ≤ l - 2)) ((decIo 0 0 0 L).bitAt A (decide (8 ≤ l - 2)) x).2).1 with
    | false => exact (show Md.len (decIo gd o cap L) A p l x = _ from (if_neg (not_false h1)).trans (if_pos h2)).trans ((congrArg (fun y : Nat × PD => (10 + y.1, y.2)) (tree_a gd o cap L (A + 130 + 8 * p) 3 (l - 2 - 8) _)).trans (show Md.len (decIo 0 0 0 L) A p l x = _ from (if_neg (not_false h1)).trans (if_pos h2)).symm)
    | true => exact (show Md.len (decIo gd o cap L) A p l x = _ from (if_neg (not_false h1)).trans (if_neg (not_false h2))).trans ((congrArg (fun y : Nat × PD => (18 + y.1, y.2)) (tree_a gd o cap L (A + 258) 8 (l - 2 - 16) _)).trans (show Md.len (decIo 0 0 0 L) A p l x = _ from (if_neg (not_false h1)).trans (if_neg (not_false h2))).symm)
theorem distTail_a (gd o cap : Nat) (L : List UInt8) (d : Nat) (y : Nat × PD) : distTail (decIo gd o cap L) d y = distTail (decIo 0 0 0 L) d y := by
  by_cases h1 : y.1 < 4
  · exact (show distTail (decIo gd o cap L) d y = _ from if_pos h1).trans (show distTail (decIo 0 0 0 L) d y = _ from if_pos h1).symm
  · by_cases h2 : y.1 < 14
    · exact (show distTail (decIo gd o cap L) d y = _ from (if_neg h1).trans (if_pos h2)).trans ((congrArg (fun z : Nat × PD => ((2 + y.1 % 2) * 2 ^ (y.1 / 2 - 1) + z.1 + 1, z.2)) (rev_a gd o cap L (1716 + 32 * y.1) (y.1 / 2 - 1) (d : Nat) y.2)).trans (show distTail (decIo 0 0 0 L) d y = _ from (if_neg h1).trans (if_pos h2)).symm)
    · exact (show distTail (decIo gd o cap L) d y = _ from (if_neg h1).trans (if_neg h2)).trans ((congrArg (fun z : Nat × PD => ((2 + y.1 % 2) * 2 ^ (y.1 / 2 - 1) + ((decIo 0 0 0 L).plain y.2.2 (d / 16 % 2 ^ (y.1 / 2 - 1 - 4)) (y.1 / 2 - 1 - 4)).1 % 2 ^ (y.1 / 2 - 1 - 4) * 16 + z.1 + 1, z.2)) (rev_a gd o cap L 2164 4 (d : Nat) (y.2.1, ((decIo 0 0 0 L).plain y.2.2 (d / 16 % 2 ^ (y.1 / 2 - 1 - 4)) (y.1 / 2 - 1 - 4)).2))).trans (show distTail (decIo 0 0 0 L) d y = _ from (if_neg h1).trans (if_neg h2)).symm)
theorem dist_a (gd o cap : Nat) (L : List UInt8) (l : Nat) (d : Int) (x : PD) : Md.dist (decIo gd o cap L) l d x = Md.dist (decIo 0 0 0 L) l d x :=
  (dist_tail (decIo gd o cap L) l d x).trans ((distTail_a gd o cap L _ _).trans ((congrArg (fun y => distTail (decIo 0 0 0 L) ((d - 1) % 4294967296).toNat y) (tree_a gd o cap L _ 6 _ x)).trans (dist_tail (decIo 0 0 0 L) l d x).symm))
theorem litGo_a (gd o cap : Nat) (L : List UInt8) (T like : Nat) (v : Int) : ∀ (n m : Nat) (al : Bool) (x : PD), Md.litGo (decIo gd o cap L) T like v n m al x = Md.litGo (decIo 0 0 0 L) T like v n m al x
  | 0, _, _, _ => rfl
  | n + 1, _, _, _ => litGo_a gd o cap L T like v n _ _ _
theorem lit_a (gd o cap : Nat) (L : List UInt8) (lc lp st : Nat) (a : Int) (H : List UInt8) (v : Int) (x : PD) : Md.lit (decIo gd o cap L) lc lp st a H v x = Md.lit (decIo 0 0 0 L) lc lp st a H v x :=
  congrArg (fun y : Nat × PD => (UInt8.ofNat y.1, y.2)) (litGo_a gd o cap L _ _ v 8 1 _ x)
theorem reptTail_a (gd o cap : Nat) (L : List UInt8) (st p : Nat) (l : Int) (w : Nat × PD) : reptTail (decIo gd o cap L) st p l w = reptTail (decIo 0 0 0 L) st p l w := by
  by_cases h1 : w.1 = 0
  · cases h2 : ((decIo 0 0 0 L).bitAt (240 + 16 * st + p) (l != 1) w.2).1 with
    | false => exact (show reptTail (decIo gd o cap L) st p l w = _ from (if_pos h1).trans (if_pos h2)).trans (show reptTail (decIo 0 0 0 L) st p l w = _ from (if_pos h1).trans (if_pos h2)).symm
    | true => exact (show reptTail (decIo gd o cap L) st p l w = _ from (if_pos h1).trans (if_neg (not_false h2))).trans ((congrArg (fun z : Nat × PD => ((0, z.1), z.2)) (len_a gd o cap L 946 p l ((decIo 0 0 0 L).bitAt (240 + 16 * st + p) (l != 1) w.2).2)).trans (show reptTail (decIo 0 0 0 L) st p l w = _ from (if_pos h1).trans (if_neg (not_false h2))).symm)
  · exact (show reptTail (decIo gd o cap L) st p l w = _ from if_neg h1).trans ((congrArg (fun z : Nat × PD => ((w.1, z.1), z.2)) (len_a gd o cap L 946 p l w.2)).trans (show reptTail (decIo 0 0 0 L) st p l w = _ from if_neg h1).symm)
theorem rept_a (gd o cap : Nat) (L : List UInt8) (st p : Nat) (l q : Int) (x : PD) : Md.rept (decIo gd o cap L) st p l q x = Md.rept (decIo 0 0 0 L) st p l q x := reptTail_a gd o cap L st p l (Md.which (decIo 0 0 0 L) st q x)
theorem sym_a (gd o cap : Nat) (L : List UInt8) (lc lp pb st : Nat) (r : R4) (H : List UInt8) (k : Int) (b : UInt8) (l d q : Int) (x : PD) : Md.sym (decIo gd o cap L) lc lp pb st r H k b l d q x = Md.sym (decIo 0 0 0 L) lc lp pb st r H k b l d q x := by
  cases h1 : ((decIo 0 0 0 L).bitAt (16 * st + H.length % 2 ^ pb) (k != 0) x).1 with
  | false => exact (show Md.sym (decIo gd o cap L) lc lp pb st r H k b l d q x = _ from if_pos h1).trans ((congrArg (fun z : UInt8 × PD => ((⟨0, z.1, 0, 0, 0⟩ : Sy), litState st, r, z.2)) (lit_a gd o cap L lc lp st r.1 H (b.toNat : Nat) ((decIo 0 0 0 L).bitAt (16 * st + H.length % 2 ^ pb) (k != 0) x).2)).trans (show Md.sym (decIo 0 0 0 L) lc lp pb st r H k b l d q x = _ from if_pos h1).symm)
  | true =>
    cases h2 : ((decIo 0 0 0 L).bitAt (192 + st) (k != 1) ((decIo 0 0 0 L).bitAt (16 * st + H.length % 2 ^ pb) (k != 0) x).2).1 with
    | false =>
      refine (show Md.sym (decIo gd o cap L) lc lp pb st r H k b l d q x = _ from (if_neg (not_false h1)).trans (if_pos h2)).trans (Eq.trans ?_ (show Md.sym (decIo 0 0 0 L) lc lp pb st r H k b l d q x = _ from (if_neg (not_false h1)).trans (if_pos h2)).symm)
      have e1 := len_a gd o cap L 432 (H.length % 2 ^ pb) l ((decIo 0 0 0 L).bitAt (192 + st) (k != 1) ((decIo 0 0 0 L).bitAt (16 * st + H.length % 2 ^ pb) (k != 0) x).2).2
      have e2 := fun (n : Nat × PD) => dist_a gd o cap L n.1 d n.2
      exact (congrArg (fun n : Nat × PD => ((⟨1, 0, n.1, (Md.dist (decIo gd o cap L) n.1 d n.2).1, 0⟩ : Sy), (if st < 7 then 7 else 10), frontR r 3 ((Md.dist (decIo gd o cap L) n.1 d n.2).1 : Nat), (Md.dist (decIo gd o cap L) n.1 d n.2).2)) e1).trans (congrArg (fun z : Nat × PD => ((⟨1, 0, (Md.len (decIo 0 0 0 L) 432 (H.length % 2 ^ pb) l ((decIo 0 0 0 L).bitAt (192 + st) (k != 1) ((decIo 0 0 0 L).bitAt (16 * st + H.length % 2 ^ pb) (k != 0) x).2).2).1, z.1, 0⟩ : Sy), (if st < 7 then 7 else 10), frontR r 3 (z.1 : Nat), z.2)) (e2 _))
    | true =>
      refine (show Md.sym (decIo gd o cap L) lc lp pb st r H k b l d q x = _ from (if_neg (not_false h1)).trans (if_neg (not_false h2))).trans (Eq.trans ?_ (show Md.sym (decIo 0 0 0 L) lc lp pb st r H k b l d q x = _ from (if_neg (not_false h1)).trans (if_neg (not_false h2))).symm)
      exact congrArg (fun z : (Nat × Nat) × PD => ((⟨2, 0, z.1.2, 0, z.1.1⟩ : Sy), (if st < 7 then (if z.1.2 = 1 then 9 else 8) else 11), frontR r z.1.1 (r4 r.1 r.2.1 r.2.2.1 r.2.2.2 z.1.1), z.2)) (rept_a gd o cap L st (H.length % 2 ^ pb) l q ((decIo 0 0 0 L).bitAt (192 + st) (k != 1) ((decIo 0 0 0 L).bitAt (16 * st + H.length % 2 ^ pb) (k != 0) x).2).2)
end Go.Proofs.Ytkckjjchfccdjaa
