/- Several texts in one: MbRun, UmMath, UmChain. -/
import Derived.Test.YtkckjjchfccdjaaMbSim
import Derived.Test.YtkckjjchfccdjaaMg14
import Derived.Test.YtkckjjchfccdjaaMg13
/- Symbols coded one behind another, and told back. -/
namespace Go.Proofs.Ytkckjjchfccdjaa
set_option maxRecDepth 100000
open Go.RowKit

/-- Where a coder stands. -/
structure MSt where
  H : List UInt8
  st : Nat
  r : R4
  x : PS
/-- A symbol takes the coder from one place to the next. -/
structure Link (g lc lp pb : Nat) (a : MSt) (s : Sy) (b : MSt) : Prop where
  sym : ∃ (k : Int) (c : UInt8) (l d q : Int), Md.sym (encIo g) lc lp pb a.st a.r a.H k c l d q a.x = (s, b.st, b.r, b.x)
  k : s.k ≤ 2
  q : s.r ≤ 3
  short : s.l ≤ 273
  pos : s.k ≠ 0 → 1 ≤ s.l
  hist : ∃ bk : Nat, distZ a.r (s.k : Nat) (s.d : Nat) (s.r : Nat) = (bk : Int) ∧ (((s.k : Nat) : Int) ≠ 0 → 1 ≤ bk ∧ bk ≤ a.H.length) ∧ b.H = growS a.H (s.k : Nat) s.b s.l bk
  st : ((b.st : Nat) : Int) = stateAfter (a.st : Nat) (s.k : Nat) (s.l : Nat)
  r : b.r = repsAfter a.r (s.k : Nat) (s.d : Nat) (s.r : Nat)
  ok : b.x.2.ok
theorem growS_zero (H : List UInt8) (b : UInt8) (l l' back back' : Nat) : growS H 0 b l back = growS H 0 b l' back' := by
  unfold growS
  rw [if_pos rfl, if_pos rfl]
theorem growS_ne {k : Int} (hk : k ≠ 0) (H : List UInt8) (b b' : UInt8) (l back : Nat) : growS H k b l back = growS H k b' l back := by
  unfold growS
  rw [if_neg hk, if_neg hk]
theorem fits_link {g lc lp pb : Nat} {a : MSt} {k : Int} {b : UInt8} {l d q : Int} (hr : rGood a.r) (hf : fitsZ a.r (a.H.length : Int) k l d q = true) :
    ∃ s st' r' z, Md.sym (encIo g) lc lp pb a.st a.r a.H k b l d q a.x = (s, st', r', z) ∧ r' = repsAfter a.r k d q ∧ ((st' : Nat) : Int) = stateAfter (a.st : Nat) k l ∧ s.val = plainZ k b l d q ∧ ∀ bk : Nat, distZ a.r k d q = (bk : Int) → z.2.ok → Link g lc lp pb a s ⟨growS a.H k b l.toNat bk, st', r', z⟩ := by
  have hr1 : ∀ q : Nat, q ≤ 3 → 1 ≤ rAt a.r (q : Nat) := by
    intro q hq
    obtain ⟨⟨a1, a2, a3, a4⟩, _⟩ := hr
    unfold rAt
    rcases (by omega : q = 0 ∨ q = 1 ∨ q = 2 ∨ q = 3) with rfl | rfl | rfl | rfl
    · exact a1
    · exact a2
    · exact a3
    · exact a4
  rcases fitsZ_cases hf with rfl | ⟨rfl, h2, h3, h4, h5, h6⟩ | ⟨rfl, h0, h1, h4, h5⟩
  · obtain ⟨z, hz, _⟩ := sym_lit_enc g lc lp pb a.st a.r a.H b l d q a.x
    refine ⟨_, _, _, _, hz, rfl, lit_state a.st l, rfl, fun bk hbk hok => ?_⟩
    exact ⟨⟨0, b, l, d, q, hz⟩, show 0 ≤ 2 by decide, show 0 ≤ 3 by decide, show 0 ≤ 273 by decide, fun h => absurd rfl h, ⟨0, rfl, fun h => absurd rfl h, growS_zero a.H b l.toNat 0 bk 0⟩, lit_state a.st _, rfl, hok⟩
  · obtain ⟨l, rfl⟩ : ∃ n : Nat, l = n := ⟨l.toNat, by omega⟩
    obtain ⟨d, rfl⟩ : ∃ n : Nat, d = n := ⟨d.toNat, by omega⟩
    obtain ⟨z, hz, _⟩ := sym_match_enc g lc lp pb a.st a.r a.H b l d q (by omega) (by omega) (by omega) (by omega) a.x
    refine ⟨_, _, _, _, hz, rfl, match_state a.st l, rfl, fun bk hbk hok => ?_⟩
    have hd : distZ a.r 1 (d : Nat) q = (d : Int) := by unfold distZ; rw [if_pos rfl]
    rw [hd] at hbk
    refine ⟨⟨1, b, l, d, q, hz⟩, show 1 ≤ 2 by decide, show 0 ≤ 3 by decide, by show l ≤ 273; omega, fun _ => by show 1 ≤ l; omega, ⟨bk, ?_, fun _ => by show 1 ≤ bk ∧ bk ≤ a.H.length; omega, growS_ne (show (1 : Int) ≠ 0 by decide) a.H b 0 l bk⟩, match_state a.st _, rfl, hok⟩
    show distZ a.r 1 (d : Nat) 0 = (bk : Int)
    unfold distZ
    rw [if_pos rfl]; exact hbk
  · obtain ⟨l, rfl⟩ : ∃ n : Nat, l = n := ⟨l.toNat, by omega⟩
    obtain ⟨q, rfl⟩ : ∃ n : Nat, q = n := ⟨q.toNat, by omega⟩
    obtain ⟨z, hz, _⟩ := sym_rept_enc g lc lp pb a.st a.r a.H b l q d (by omega) (by omega) (by omega) (by omega) a.x
    refine ⟨_, _, _, _, hz, rept_reps a.r q (by omega) d, rept_state a.st l, rfl, fun bk hbk hok => ?_⟩
    have hd : distZ a.r 2 d (q : Nat) = rAt a.r (q : Nat) := by unfold distZ; rw [if_neg (by decide), if_pos rfl]
    rw [hd] at hbk
    have h1' := hr1 q (by omega)
    refine ⟨⟨2, b, l, d, q, hz⟩, show 2 ≤ 2 by decide, by show q ≤ 3; omega, by show l ≤ 273; omega, fun _ => by show 1 ≤ l; omega, ⟨bk, ?_, fun _ => by show 1 ≤ bk ∧ bk ≤ a.H.length; omega, growS_ne (show (2 : Int) ≠ 0 by decide) a.H b 0 l bk⟩, rept_state a.st l, rept_reps a.r q (by omega) _, hok⟩
    show distZ a.r 2 0 (q : Nat) = (bk : Int)
    unfold distZ
    rw [if_neg (by decide), if_pos rfl]; exact hbk
/-- The places of a run, and its symbols. -/
def Chain (g lc lp pb : Nat) (ss : List Sy) (M : Nat → MSt) : Prop := ∀ t (h : t < ss.length), Link g lc lp pb (M t) ss[t] (M (t + 1))
theorem Chain.snoc {g lc lp pb : Nat} {ss : List Sy} {M : Nat → MSt} {s : Sy} {b : MSt} (h : Chain g lc lp pb ss M) (hl : Link g lc lp pb (M ss.length) s b) : Chain g lc lp pb (ss ++ [s]) (fun t => if t ≤ ss.length then M t else b) ∧ (if (ss ++ [s]).length ≤ ss.length then M (ss ++ [s]).length else b) = b := by
  refine ⟨fun t ht => ?_, if_neg (by simp)⟩
  have ht' : t < ss.length + 1 := by simpa using ht
  show Link g lc lp pb (if t ≤ ss.length then M t else b) (ss ++ [s])[t] (if t + 1 ≤ ss.length then M (t + 1) else b)
  rw [if_pos (show t ≤ ss.length by omega)]
  by_cases h1 : t < ss.length
  · rw [if_pos (show t + 1 ≤ ss.length by omega), List.getElem_append_left h1]
    exact h t h1
  · obtain rfl : t = ss.length := by omega
    rw [if_neg (show ¬ ss.length + 1 ≤ ss.length by omega)]
    simpa using hl
theorem Link.step {g lc lp pb : Nat} {a b : MSt} {s : Sy} (h : Link g lc lp pb a s b) (hf : Fair a.x.1) : Fair b.x.1 ∧ Rc.Inside a.x.2 b.x.2 := by
  obtain ⟨k, c, l, d, q, hs⟩ := h.sym
  obtain ⟨h1, h2⟩ := sym_inside (be_agree b.x.2) (by have := h.ok.2; omega) (by rw [Rc.be_length]; exact Nat.le_refl _) g hf hs
  exact ⟨h1, h2 (Rc.Inside.refl _)⟩
theorem Chain.fair {g lc lp pb : Nat} {ss : List Sy} {M : Nat → MSt} (h : Chain g lc lp pb ss M) (h0 : Fair (M 0).x.1) : ∀ t, t ≤ ss.length → Fair (M t).x.1
  | 0, _ => h0
  | t + 1, ht => ((h t (by omega)).step (h.fair h0 t (by omega))).1
theorem Chain.inside {g lc lp pb : Nat} {ss : List Sy} {M : Nat → MSt} (h : Chain g lc lp pb ss M) (h0 : Fair (M 0).x.1) : ∀ n t, t + n = ss.length → Rc.Inside (M t).x.2 (M ss.length).x.2
  | 0, t, e => by
    have : t = ss.length := by omega
    subst this; exact Rc.Inside.refl _
  | n + 1, t, e => ((h t (by omega)).step (h.fair h0 t (by omega))).2.trans (h.inside h0 n (t + 1) (by omega))
/-- One symbol is told back. -/
theorem Chain.back {g lc lp pb : Nat} {ss : List Sy} {M : Nat → MSt} (h : Chain g lc lp pb ss M) (h0 : Fair (M 0).x.1) (hok : (M ss.length).x.2.ok) {L : List UInt8} (hL : L = Rc.be (5 + (M ss.length).x.2.k) (M ss.length).x.2.v) (gd o cap : Nat) {t : Nat} (ht : t < ss.length) {y : PD} (hs : Sim (M ss.length).x.2 L (M t).x y) :
    ∃ z' : PD, Md.sym (decIo gd o cap L) lc lp pb (M t).st (M t).r (M t).H 0 0 0 0 0 y = (ss[t], (M (t + 1)).st, (M (t + 1)).r, z') ∧ Sim (M ss.length).x.2 L (M (t + 1)).x z' := by
  subst hL
  obtain ⟨k, c, l, d, q, hsy⟩ := (h t ht).sym
  exact sym_back (be_agree _) (by have := hok.2; omega) (by rw [Rc.be_length]; exact Nat.le_refl _) g gd o cap (h.fair h0 t (by omega)) hsy (h.inside h0 (ss.length - (t + 1)) (t + 1) (by omega)) hs
theorem sim_start {S : Rc.St} {L : List UInt8} (hok : S.ok) (hL : L = Rc.be (5 + S.k) S.v) : Sim S L (fun _ => 1024, st0) (fun _ => 1024, Rd.start L) := by
  subst hL
  exact ⟨rfl, follow_start (be_agree S) hok (by rw [Rc.be_length]; omega)⟩
/-- All is read. -/
theorem sim_done {S : Rc.St} {L : List UInt8} {P : Nat → Nat} {y : PD} (hL : L = Rc.be (5 + S.k) S.v) (h : Sim S L (P, S) y) : y.2.done L = true := by
  subst hL
  have hl : (Rc.be (5 + S.k) S.v).length = 5 + S.k := Rc.be_length _ _
  have h1 := h.2.1 (by rw [hl]; exact Nat.le_refl _)
  have ht : Rc.top S S.k = S.v := by unfold Rc.top; simp
  rw [ht, Nat.sub_self] at h1
  rw [h1]
  unfold Rd.St.done
  rw [hl]; simp
end Go.Proofs.Ytkckjjchfccdjaa

/- Symbols read back to bytes: the mathematics. -/
namespace Go.Proofs.Ytkckjjchfccdjaa
set_option maxRecDepth 100000
open Go.RowKit

theorem mod_pow_drop {n cut p : Nat} (hp : p ≤ 4) (hc : cut % 16 = 0) (h : cut ≤ n) : (n - cut) % 2 ^ p = n % 2 ^ p := by
  obtain ⟨m, rfl⟩ : ∃ m, cut = 16 * m := ⟨cut / 16, by omega⟩
  have hd : (16 : Nat) = 2 ^ p * 2 ^ (4 - p) := by rw [← Nat.pow_add, show p + (4 - p) = 4 by omega]
  have e : n = (n - 16 * m) + 2 ^ p * (2 ^ (4 - p) * m) := by rw [← Nat.mul_assoc, ← hd]; omega
  conv => rhs; rw [e]
  rw [Nat.add_mul_mod_self_left]
theorem getD_drop {H : List UInt8} {cut i : Nat} : (H.drop cut).getD i 0 = H.getD (cut + i) 0 := by
  simp only [List.getD_eq_getElem?_getD, List.getElem?_drop]
theorem ctxN_trim {lc lp cut : Nat} {H : List UInt8} (hlp : lp ≤ 4) (hc : cut % 16 = 0) (h : cut < H.length) : ctxN lc lp (H.drop cut) = ctxN lc lp H := by
  unfold ctxN
  rw [List.length_drop, mod_pow_drop hlp hc (by omega), if_pos (by omega), if_pos (by omega), getD_drop, show cut + (H.length - cut - 1) = H.length - 1 by omega]
theorem likeN_trim {cut : Nat} {H : List UInt8} {a : Int} (ha : 1 ≤ a) (h : a ≤ ((H.length - cut : Nat) : Int)) (hc : cut < H.length) : Md.likeN (H.drop cut) a = Md.likeN H a := by
  unfold Md.likeN
  rw [List.length_drop, if_pos h, if_pos (by omega), getD_drop, show cut + (H.length - cut - a.toNat) = H.length - a.toNat by omega]
/-- A coder looks at no more of a history than this. -/
theorem sym_trim (io : Io) {lc lp pb st cut : Nat} {r : R4} {H : List UInt8} {k : Int} {b : UInt8} {l d q : Int} {x : io.S} (hlp : lp ≤ 4) (hpb : pb ≤ 4) (hr : 1 ≤ r.1) (h : cut = 0 ∨ (cut % 16 = 0 ∧ cut < H.length ∧ r.1 ≤ ((H.length - cut : Nat) : Int))) :
    Md.sym io lc lp pb st r (H.drop cut) k b l d q x = Md.sym io lc lp pb st r H k b l d q x := by
  rcases h with rfl | ⟨h1, h2, h3⟩
  · rfl
  · unfold Md.sym Md.lit
    rw [ctxN_trim hlp h1 h2, likeN_trim hr h3 h2, List.length_drop, mod_pow_drop hpb h1 (by omega)]
theorem growN_drop {H : List UInt8} {cut bk : Nat} (h0 : 1 ≤ bk) (h : cut + bk ≤ H.length) : ∀ l, (growN H bk l).drop cut = growN (H.drop cut) bk l
  | 0 => rfl
  | l + 1 => by
    have ih := growN_drop (cut := cut) h0 h l
    have hl := growN_length H bk l
    unfold growN
    rw [List.drop_append_of_le_length (by omega), ih, ← ih, List.length_drop, getD_drop, show cut + ((growN H bk l).length - cut - bk) = (growN H bk l).length - bk by omega]
/-- What is read: nothing, if it goes wrong. -/
def uread (gd o cap : Nat) (L : List UInt8) (lc lp pb : Nat) (dict : Int) (fin : Nat) : Nat → List UInt8 → Nat → R4 → PD → Option (List UInt8 × Nat × R4 × PD)
  | 0, T, st, r, y => if fin ≤ T.length then some (T, st, r, y) else none
  | f + 1, T, st, r, y =>
    if fin ≤ T.length then some (T, st, r, y)
    else if (Md.sym (decIo gd o cap L) lc lp pb st r T 0 0 0 0 0 y).2.2.2.2.out = true then none
    else if (Md.sym (decIo gd o cap L) lc lp pb st r T 0 0 0 0 0 y).1.k = 0 then uread gd o cap L lc lp pb dict fin f (T ++ [(Md.sym (decIo gd o cap L) lc lp pb st r T 0 0 0 0 0 y).1.b]) (Md.sym (decIo gd o cap L) lc lp pb st r T 0 0 0 0 0 y).2.1 (Md.sym (decIo gd o cap L) lc lp pb st r T 0 0 0 0 0 y).2.2.1 (Md.sym (decIo gd o cap L) lc lp pb st r T 0 0 0 0 0 y).2.2.2
    else if min (T.length : Int) dict < (Md.sym (decIo gd o cap L) lc lp pb st r T 0 0 0 0 0 y).2.2.1.1 ∨ fin - T.length < (Md.sym (decIo gd o cap L) lc lp pb st r T 0 0 0 0 0 y).1.l then none
    else uread gd o cap L lc lp pb dict fin f (growN T (Md.sym (decIo gd o cap L) lc lp pb st r T 0 0 0 0 0 y).2.2.1.1.toNat (Md.sym (decIo gd o cap L) lc lp pb st r T 0 0 0 0 0 y).1.l) (Md.sym (decIo gd o cap L) lc lp pb st r T 0 0 0 0 0 y).2.1 (Md.sym (decIo gd o cap L) lc lp pb st r T 0 0 0 0 0 y).2.2.1 (Md.sym (decIo gd o cap L) lc lp pb st r T 0 0 0 0 0 y).2.2.2
section
variable {gd o cap : Nat} {L : List UInt8} {lc lp pb : Nat} {dict : Int} {fin : Nat}
theorem uread_end {f : Nat} {T : List UInt8} {st : Nat} {r : R4} {y : PD} (h : fin ≤ T.length) : uread gd o cap L lc lp pb dict fin f T st r y = some (T, st, r, y) := by
  cases f <;> (unfold uread; rw [if_pos h])
theorem uread_out {f : Nat} {T : List UInt8} {st : Nat} {r : R4} {y y' : PD} {s : Sy} {st' : Nat} {r' : R4} (h : T.length < fin) (hs : Md.sym (decIo gd o cap L) lc lp pb st r T 0 0 0 0 0 y = (s, st', r', y')) (ho : y'.2.out = true) : uread gd o cap L lc lp pb dict fin f T st r y = none := by
  cases f with
  | zero => unfold uread; rw [if_neg (by omega)]
  | succ f => unfold uread; rw [if_neg (by omega), hs, if_pos ho]
theorem uread_lit {f : Nat} {T : List UInt8} {st : Nat} {r : R4} {y y' : PD} {s : Sy} {st' : Nat} {r' : R4} (h : T.length < fin) (hs : Md.sym (decIo gd o cap L) lc lp pb st r T 0 0 0 0 0 y = (s, st', r', y')) (ho : y'.2.out = false) (hk : s.k = 0) : uread gd o cap L lc lp pb dict fin (f + 1) T st r y = uread gd o cap L lc lp pb dict fin f (T ++ [s.b]) st' r' y' := by
  conv => lhs; unfold uread
  rw [if_neg (by omega), hs, if_neg (by rw [ho]; decide), if_pos hk]
theorem uread_bad {f : Nat} {T : List UInt8} {st : Nat} {r : R4} {y y' : PD} {s : Sy} {st' : Nat} {r' : R4} (h : T.length < fin) (hs : Md.sym (decIo gd o cap L) lc lp pb st r T 0 0 0 0 0 y = (s, st', r', y')) (hk : s.k ≠ 0) (hb : min (T.length : Int) dict < r'.1 ∨ fin - T.length < s.l) : uread gd o cap L lc lp pb dict fin f T st r y = none := by
  cases f with
  | zero => unfold uread; rw [if_neg (by omega)]
  | succ f =>
    unfold uread
    rw [if_neg (by omega), hs]
    by_cases ho : y'.2.out = true
    · rw [if_pos ho]
    · rw [if_neg ho, if_neg hk, if_pos hb]
theorem uread_far {f : Nat} {T : List UInt8} {st : Nat} {r : R4} {y y' : PD} {s : Sy} {st' : Nat} {r' : R4} (h : T.length < fin) (hs : Md.sym (decIo gd o cap L) lc lp pb st r T 0 0 0 0 0 y = (s, st', r', y')) (ho : y'.2.out = false) (hk : s.k ≠ 0) (hb : ¬ (min (T.length : Int) dict < r'.1 ∨ fin - T.length < s.l)) : uread gd o cap L lc lp pb dict fin (f + 1) T st r y = uread gd o cap L lc lp pb dict fin f (growN T r'.1.toNat s.l) st' r' y' := by
  conv => lhs; unfold uread
  rw [if_neg (by omega), hs, if_neg (by rw [ho]; decide), if_neg hk, if_neg hb]
end
end Go.Proofs.Ytkckjjchfccdjaa

/- What was coded is read back to bytes, or goes wrong where it should. -/
namespace Go.Proofs.Ytkckjjchfccdjaa
set_option maxRecDepth 100000
open Go.RowKit

def rPos (r : R4) : Prop := 1 ≤ r.1 ∧ 1 ≤ r.2.1 ∧ 1 ≤ r.2.2.1 ∧ 1 ≤ r.2.2.2
theorem rPos.at {r : R4} (h : rPos r) (n : Nat) : 1 ≤ r4 r.1 r.2.1 r.2.2.1 r.2.2.2 n := by
  obtain ⟨a, b, c, d⟩ := h
  match n with
  | 0 => exact a
  | 1 => exact b
  | 2 => exact c
  | n + 3 => exact d
theorem rPos.front {r : R4} (h : rPos r) {n : Nat} {d : Int} (h1 : 1 ≤ d) : rPos (frontR r n d) := by
  obtain ⟨a, b, c, e⟩ := h
  match n with
  | 0 => exact ⟨h1, b, c, e⟩
  | 1 => exact ⟨h1, a, c, e⟩
  | 2 => exact ⟨h1, a, b, e⟩
  | n + 3 => exact ⟨h1, a, b, c⟩
theorem dist_pos (io : Io) (l : Nat) (dd : Int) (x : io.S) : 1 ≤ (Md.dist io l dd x).1 := by
  unfold Md.dist
  simp only
  split
  · exact Nat.le_add_left _ _
  · split
    · exact Nat.le_add_left _ _
    · exact Nat.le_add_left _ _
theorem sym_rpos {io : Io} {lc lp pb st : Nat} {r : R4} {H : List UInt8} {k l d q : Int} {b : UInt8} {x : io.S} (h : rPos r) : rPos (Md.sym io lc lp pb st r H k b l d q x).2.2.1 := by
  unfold Md.sym
  simp only
  split
  · exact h
  · split
    · exact h.front (by have := dist_pos io (Md.len io 432 (H.length % 2 ^ pb) l (io.bitAt (192 + st) (k != 1) (io.bitAt (16 * st + H.length % 2 ^ pb) (k != 0) x).2).2).1 d (Md.len io 432 (H.length % 2 ^ pb) l (io.bitAt (192 + st) (k != 1) (io.bitAt (16 * st + H.length % 2 ^ pb) (k != 0) x).2).2).2; omega)
    · exact h.front (h.at _)
theorem len_pos (io : Io) (A p : Nat) (l : Int) (x : io.S) : 1 ≤ (Md.len io A p l x).1 := by
  unfold Md.len
  simp only
  split
  · omega
  · split
    · omega
    · omega
theorem rept_pos (io : Io) (st p : Nat) (l q : Int) (x : io.S) : 1 ≤ (Md.rept io st p l q x).1.2 := by
  unfold Md.rept
  simp only
  split
  · split
    · exact Nat.le_refl 1
    · exact len_pos _ _ _ _ _
  · exact len_pos _ _ _ _ _
theorem sym_lpos {io : Io} {lc lp pb st : Nat} {r : R4} {H : List UInt8} {k l d q : Int} {b : UInt8} {x : io.S} (h : (Md.sym io lc lp pb st r H k b l d q x).1.k ≠ 0) : 1 ≤ (Md.sym io lc lp pb st r H k b l d q x).1.l := by
  revert h
  unfold Md.sym
  simp only
  split
  · intro h; exact absurd rfl h
  · split
    · intro _; exact len_pos _ _ _ _ _
    · intro _; exact rept_pos _ _ _ _ _ _
/-- It is the same to read behind a history's end. -/
theorem uread_trim {gd o cap : Nat} {L : List UInt8} {lc lp pb cut : Nat} {dict : Int} {fin : Nat} (hlp : lp ≤ 4) (hpb : pb ≤ 4) : ∀ (f : Nat) (H : List UInt8) (st : Nat) (r : R4) (y : PD), rPos r → (cut = 0 ∨ (cut % 16 = 0 ∧ cut < H.length ∧ r.1 ≤ ((H.length - cut : Nat) : Int) ∧ dict ≤ ((H.length - cut : Nat) : Int))) →
    uread gd o cap L lc lp pb dict fin f (H.drop cut) st r y = (uread gd o cap L lc lp pb dict (fin + cut) f H st r y).map fun q => (q.1.drop cut, q.2) := by
  intro f
  induction f with
  | zero =>
    intro H st r y hr hc
    have hl : (H.drop cut).length = H.length - cut := List.length_drop
    have hcl : cut ≤ H.length := by omega
    unfold uread
    by_cases h : fin ≤ H.length - cut
    · rw [if_pos (by rw [hl]; exact h), if_pos (by omega)]; rfl
    · rw [if_neg (by rw [hl]; exact h), if_neg (by omega)]; rfl
  | succ f ih =>
    intro H st r y hr hc
    have hl : (H.drop cut).length = H.length - cut := List.length_drop
    have hcl : cut ≤ H.length := by omega
    have hs := sym_trim (decIo gd o cap L) (lc := lc) (lp := lp) (pb := pb) (st := st) (cut := cut) (r := r) (H := H) (k := 0) (b := 0) (l := 0) (d := 0) (q := 0) (x := y) hlp hpb hr.1 (by omega)
    obtain ⟨⟨s, st', r', y'⟩, ht⟩ : ∃ t, Md.sym (decIo gd o cap L) lc lp pb st r H 0 0 0 0 0 y = t := ⟨_, rfl⟩
    have hr' : rPos r' := by have := sym_rpos (io := decIo gd o cap L) (lc := lc) (lp := lp) (pb := pb) (st := st) (H := H) (k := 0) (l := 0) (d := 0) (q := 0) (b := 0) (x := y) hr; rw [ht] at this; exact this
    rw [ht] at hs
    by_cases h : fin ≤ H.length - cut
    · rw [uread_end (by rw [hl]; exact h), uread_end (by omega)]; rfl
    · have h1 : (H.drop cut).length < fin := by rw [hl]; omega
      have h2 : H.length < fin + cut := by omega
      by_cases ho : y'.2.out = true
      · rw [uread_out h1 hs ho, uread_out h2 ht ho]; rfl
      · have ho' : y'.2.out = false := by simpa using ho
        by_cases hk : s.k = 0
        · rw [uread_lit h1 hs ho' hk, uread_lit h2 ht ho' hk]
          have e : H.drop cut ++ [s.b] = (H ++ [s.b]).drop cut := by rw [List.drop_append_of_le_length hcl]
          rw [e]
          refine ih (H ++ [s.b]) st' r' y' hr' ?_
          rcases hc with hc | ⟨c1, c2, c3, c4⟩
          · exact .inl hc
          · have e2 : r' = r := by
              have hz : (Md.sym (decIo gd o cap L) lc lp pb st r H 0 0 0 0 0 y).1.k = 0 → (Md.sym (decIo gd o cap L) lc lp pb st r H 0 0 0 0 0 y).2.2.1 = r := by
                unfold Md.sym
                simp only
                split
                · intro _; rfl
                · split
                  · intro h; simp at h
                  · intro h; simp at h
              rw [ht] at hz
              exact hz hk
            rw [e2]
            refine .inr ⟨c1, ?_, ?_, ?_⟩ <;> rw [List.length_append, List.length_singleton] <;> omega
        · by_cases hb : min ((H.drop cut).length : Int) dict < r'.1 ∨ fin - (H.drop cut).length < s.l
          · have hb2 : min (H.length : Int) dict < r'.1 ∨ fin + cut - H.length < s.l := by rw [hl] at hb; omega
            rw [uread_bad h1 hs hk hb, uread_bad h2 ht hk hb2]; rfl
          · have hb2 : ¬ (min (H.length : Int) dict < r'.1 ∨ fin + cut - H.length < s.l) := by rw [hl] at hb; omega
            rw [uread_far h1 hs ho' hk hb, uread_far h2 ht ho' hk hb2]
            have h1r := hr'.1
            rw [hl] at hb
            rw [← growN_drop (by omega) (by omega)]
            have hgl := growN_length H r'.1.toNat s.l
            refine ih (growN H r'.1.toNat s.l) st' r' y' hr' ?_
            rcases hc with hc | ⟨c1, c2, c3, c4⟩
            · exact .inl hc
            · refine .inr ⟨c1, ?_, ?_, ?_⟩ <;> rw [hgl] <;> omega
section
variable {g lc lp pb : Nat} {ss : List Sy} {M : Nat → MSt} {L : List UInt8} {gd o cap : Nat} {dict : Int} {fin : Nat}
theorem Link.front {a b : MSt} {s : Sy} (h : Link g lc lp pb a s b) (hk : s.k ≠ 0) : b.r.1 = distZ a.r (s.k : Nat) (s.d : Nat) (s.r : Nat) := by
  rw [h.r]
  have h2 := h.k
  have h3 := h.q
  rcases (by omega : s.k = 1 ∨ s.k = 2) with e | e
  · rw [e]; simp [repsAfter, distZ]
  · rw [e]
    rcases (by omega : s.r = 0 ∨ s.r = 1 ∨ s.r = 2 ∨ s.r = 3) with e | e | e | e <;> rw [e] <;> simp [repsAfter, distZ, rAt, r4]
theorem Link.grows {a b : MSt} {s : Sy} (h : Link g lc lp pb a s b) : b.H.length = a.H.length + (if s.k = 0 then 1 else s.l) := by
  obtain ⟨bk, _, _, hH⟩ := h.hist
  rw [hH]
  unfold growS
  by_cases hk : s.k = 0
  · rw [if_pos (by omega), if_pos hk]; simp
  · rw [if_neg (by omega), if_neg hk, growN_length]
theorem Chain.longer (h : Chain g lc lp pb ss M) : ∀ d t, t + d ≤ ss.length → (M t).H.length + d ≤ (M (t + d)).H.length
  | 0, _, _ => Nat.le_refl _
  | d + 1, t, ht => by
    have h1 := h.longer d t (by omega)
    have hl := h (t + d) (by omega)
    have h2 := hl.grows
    have h3 := hl.pos
    show (M t).H.length + (d + 1) ≤ (M (t + d + 1)).H.length
    split at h2
    · omega
    · rename_i hk; have := h3 hk; omega
/-- So far it is read as it was coded. -/
theorem Chain.reads (h : Chain g lc lp pb ss M) (h0 : Fair (M 0).x.1) (hok : (M ss.length).x.2.ok) (hL : L = Rc.be (5 + (M ss.length).x.2.k) (M ss.length).x.2.v) {y : PD} (hs : Sim (M ss.length).x.2 L (M 0).x y) :
    ∀ t, (ht : t ≤ ss.length) → (∀ i (hi : i < t), (M (i + 1)).H.length ≤ fin ∧ (ss[i].k ≠ 0 → distZ (M i).r (ss[i].k : Nat) (ss[i].d : Nat) (ss[i].r : Nat) ≤ dict)) →
      ∃ y', Sim (M ss.length).x.2 L (M t).x y' ∧ ∀ f, uread gd o cap L lc lp pb dict fin (f + t) (M 0).H (M 0).st (M 0).r y = uread gd o cap L lc lp pb dict fin f (M t).H (M t).st (M t).r y' := by
  intro t
  induction t with
  | zero => intro _ _; exact ⟨y, hs, fun f => rfl⟩
  | succ t ih =>
    intro ht hc
    obtain ⟨y1, hs1, hf1⟩ := ih (by omega) (fun i hi => hc i (by omega))
    obtain ⟨z, hz, hsz⟩ := h.back h0 hok hL gd o cap (show t < ss.length by omega) hs1
    obtain ⟨c1, c2⟩ := hc t (by omega)
    have hl := h t (by omega)
    obtain ⟨bk, hbk, hbk1, hH⟩ := hl.hist
    have hin := (h.inside h0 (ss.length - (t + 1)) (t + 1) (by omega)).1
    have hout : z.2.out = false := by
      have := hsz.2.1 (by rw [hL, Rc.be_length]; omega)
      rw [this]
    have hg := hl.grows
    have hp := hl.pos
    refine ⟨z, hsz, fun f => ?_⟩
    rw [show f + (t + 1) = (f + 1) + t by omega, hf1 (f + 1)]
    by_cases hk : ss[t].k = 0
    · rw [if_pos hk] at hg
      rw [uread_lit (by omega) hz hout hk]
      have e : (M t).H ++ [ss[t].b] = (M (t + 1)).H := by rw [hH]; unfold growS; rw [if_pos (by omega)]
      rw [e]
    · rw [if_neg hk] at hg
      have hfr := hl.front hk
      have hk' : ((ss[t].k : Nat) : Int) ≠ 0 := by omega
      have hb1 := hbk1 hk'
      have hdd := c2 hk
      have hp1 := hp hk
      rw [uread_far (by omega) hz hout hk (by rw [hfr, hbk] ; rw [hbk] at hdd; omega)]
      have e : growN (M t).H (M (t + 1)).r.1.toNat ss[t].l = (M (t + 1)).H := by rw [hH, hfr, hbk]; unfold growS; rw [if_neg hk', Int.toNat_natCast]
      rw [e]
theorem Chain.fails (h : Chain g lc lp pb ss M) (h0 : Fair (M 0).x.1) (hok : (M ss.length).x.2.ok) (hL : L = Rc.be (5 + (M ss.length).x.2.k) (M ss.length).x.2.v) {y : PD} {t : Nat} (ht : t < ss.length) (hs : Sim (M ss.length).x.2 L (M t).x y) (h1 : (M t).H.length < fin) (hk : ss[t].k ≠ 0) (hb : dict < distZ (M t).r (ss[t].k : Nat) (ss[t].d : Nat) (ss[t].r : Nat) ∨ fin - (M t).H.length < ss[t].l) (f : Nat) :
    uread gd o cap L lc lp pb dict fin f (M t).H (M t).st (M t).r y = none := by
  obtain ⟨z, hz, hsz⟩ := h.back h0 hok hL gd o cap ht hs
  have hfr := (h t ht).front hk
  exact uread_bad h1 hz hk (by rw [hfr]; omega)
end
end Go.Proofs.Ytkckjjchfccdjaa
