/- Several texts in one: UmReached, UmMath, UmChain. -/
import Derived.Test.YtdkimllfpiphgaaMlBaseAll
import Derived.Laws.BitsAllLaws
import Derived.Test.YtdkimllfpiphgaaMbSimAll
/- unmodel's reached: a history's end. -/
namespace Go.Proofs.Ytdkimllfpiphgaa
open Go.RowKit

theorem and_high (x : Nat) (hx : x < 2 ^ 64) : x &&& (18446744073709551615 - 15) = x / 16 * 16 := by
  have e1 : (18446744073709551615 - 15 : Nat) = (2 ^ 60 - 1) * 2 ^ 4 := by decide
  rw [e1]
  apply Nat.eq_of_testBit_eq
  intro i
  have e2 : x / 16 * 16 = x / 2 ^ 4 * 2 ^ 4 := rfl
  rw [e2, Nat.testBit_and, Nat.testBit_mul_two_pow, Nat.testBit_mul_two_pow, Nat.testBit_two_pow_sub_one, Nat.testBit_div_two_pow]
  by_cases h4 : 4 ≤ i
  · have e3 : i - 4 + 4 = i := by omega
    rw [e3]
    by_cases h60 : i - 4 < 60
    · simp [h4, h60]
    · have hb : x.testBit i = false := Nat.testBit_lt_two_pow (Nat.lt_of_lt_of_le hx (Nat.pow_le_pow_right (by decide) (by omega)))
      simp [hb]
  · simp [h4]
theorem andNot15 (n : Nat) (hn : n < 9223372036854775808) : bits .andNot .i64 (n : Int) 15 = ((n / 16 * 16 : Nat) : Int) := by
  show IntKind.i64.wrap ((BitVec.ofInt 64 (n : Int) &&& ~~~BitVec.ofInt 64 15).toNat : Int) = _
  have h1 : (BitVec.ofInt 64 (n : Int)).toNat = n := by
    rw [BitVec.toNat_ofInt]; omega
  have h2 : (BitVec.ofInt 64 (15 : Int)).toNat = 15 := by decide
  rw [BitVec.toNat_and, BitVec.toNat_not, h1, h2]
  have e : 2 ^ 64 - 1 - 15 = 18446744073709551615 - 15 := by decide
  rw [e, and_high n (by omega)]
  have hle : n / 16 * 16 ≤ n := Nat.div_mul_le_self n 16
  generalize n / 16 * 16 = q at *
  unfold IntKind.wrap
  simp [IntKind.bits, IntKind.signed]
  omega
def cutOf (n : Nat) (back : Int) : Nat := (max ((n : Int) - back) 0).toNat / 16 * 16
theorem cutOf_le (n : Nat) {back : Int} (h : 0 ≤ back) : cutOf n back ≤ n := by
  unfold cutOf
  have := Nat.div_mul_le_self (max ((n : Int) - back) 0).toNat 16
  omega
set_option maxRecDepth 100000 in
set_option maxHeartbeats 1000000 in
theorem reached_any (A : Option Addr) (H : List UInt8) (c : Nat) (back : Int) (w : World) (hc : H.length ≤ c) (hH : H.length ≤ 1000000000) (h1 : 1 ≤ back) (h2 : back ≤ 9223372036854775807) :
    Calls Try.prog 26 #[.slice A H.length c, .int .i64 back] w fun e w' => e = .returned (.slice (if c = cutOf H.length back then A else A.map (·.add (cutOf H.length back))) (H.length - cutOf H.length back) (c - cutOf H.length back)) ∧ w = w' := by
  obtain ⟨n, hn⟩ : ∃ n, H.length = n := ⟨_, rfl⟩
  rw [hn] at hc hH ⊢
  obtain ⟨m, hm⟩ : ∃ m : Nat, (max ((n : Int) - back) 0).toNat = m := ⟨_, rfl⟩
  have hmi : max ((n : Int) - back) 0 = (m : Int) := by omega
  have hmn : m ≤ n := by omega
  have hcut : cutOf n back = m / 16 * 16 := by unfold cutOf; rw [hm]
  have hb := andNot15 m (by omega)
  have hle : m / 16 * 16 ≤ m := Nat.div_mul_le_self m 16
  rw [hcut]
  generalize m / 16 * 16 = q at *
  have hni : (n : Int) ≤ 1000000000 := by omega
  have hqn : (q : Int) ≤ (n : Int) := by omega
  have hci : (n : Int) ≤ (c : Int) := by omega
  have hsb : wrap64 ((n : Int) - back) = (n : Int) - back := by unfold wrap64; omega
  obtain ⟨AT, hAT⟩ : ∃ AT, (if c = q then A else A.map (·.add q)) = AT := ⟨_, rfl⟩
  rw [hAT]
  have HAT := Lib.hid hAT
  clear hn hm hcut hAT
  go_enter Try.func26, Try.ntmps26
  go_wp2_with fail
  · go_ret
    refine ⟨?_, rfl⟩
    rw [← HAT.out, if_pos (by first | assumption | omega)]; rfl
  · go_ret
    refine ⟨?_, rfl⟩
    rw [← HAT.out, if_neg (by assumption)]; rfl
end Go.Proofs.Ytdkimllfpiphgaa

/- Symbols read back to bytes: the mathematics. -/
namespace Go.Proofs.Ytdkimllfpiphgaa
open Go.RowKit

theorem mod_pow_drop {n cut p : Nat} (hp : p ≤ 4) (hc : cut % 16 = 0) (h : cut ≤ n) : (n - cut) % 2 ^ p = n % 2 ^ p := by
  obtain ⟨m, rfl⟩ : ∃ m, cut = 16 * m := ⟨cut / 16, by omega⟩
  have hd : (16 : Nat) = 2 ^ p * 2 ^ (4 - p) := by rw [← Nat.pow_add, show p + (4 - p) = 4 by omega]
  have e : n = (n - 16 * m) + 2 ^ p * (2 ^ (4 - p) * m) := by rw [← Nat.mul_assoc, ← hd]; omega
  conv => rhs; rw [e]
  rw [Nat.add_mul_mod_self_left]
theorem getD_drop {H : List UInt8} {cut i : Nat} : (H.drop cut).getD i 0 = H.getD (cut + i) 0 := by
  simp only [List.getD_eq_getElem?_getD, List.getElem?_drop]
theorem ctxN_trim {lc lp cut : Nat} {H : List UInt8} (hlp : lp ≤ 4) (hc : cut % 16 = 0) (h : cut < H.length) : ctxN lc lp (H.drop cut) = ctxN lc lp H := by
  unfold ctxN
  rw [List.length_drop, mod_pow_drop hlp hc (by omega), if_pos (by omega), if_pos (by omega), getD_drop, show cut + (H.length - cut - 1) = H.length - 1 by omega]
theorem likeN_trim {cut : Nat} {H : List UInt8} {a : Int} (ha : 1 ≤ a) (h : a ≤ ((H.length - cut : Nat) : Int)) (hc : cut < H.length) : Md.likeN (H.drop cut) a = Md.likeN H a := by
  unfold Md.likeN
  rw [List.length_drop, if_pos h, if_pos (by omega), getD_drop, show cut + (H.length - cut - a.toNat) = H.length - a.toNat by omega]
/-- A coder looks at no more of a history than this. -/
theorem sym_trim (io : Io) {lc lp pb st cut : Nat} {r : R4} {H : List UInt8} {k : Int} {b : UInt8} {l d q : Int} {x : io.S} (hlp : lp ≤ 4) (hpb : pb ≤ 4) (hr : 1 ≤ r.1) (h : cut = 0 ∨ (cut % 16 = 0 ∧ cut < H.length ∧ r.1 ≤ ((H.length - cut : Nat) : Int))) :
    Md.sym io lc lp pb st r (H.drop cut) k b l d q x = Md.sym io lc lp pb st r H k b l d q x := by
  rcases h with rfl | ⟨h1, h2, h3⟩
  · rfl
  · unfold Md.sym Md.lit
    rw [ctxN_trim hlp h1 h2, likeN_trim hr h3 h2, List.length_drop, mod_pow_drop hpb h1 (by omega)]
theorem growN_drop {H : List UInt8} {cut bk : Nat} (h0 : 1 ≤ bk) (h : cut + bk ≤ H.length) : ∀ l, (growN H bk l).drop cut = growN (H.drop cut) bk l
  | 0 => rfl
  | l + 1 => by
    have ih := growN_drop (cut := cut) h0 h l
    have hl := growN_length H bk l
    unfold growN
    rw [List.drop_append_of_le_length (by omega), ih, ← ih, List.length_drop, getD_drop, show cut + ((growN H bk l).length - cut - bk) = (growN H bk l).length - bk by omega]
/-- What is read: nothing, if it goes wrong. -/
def uread (gd o cap : Nat) (L : List UInt8) (lc lp pb : Nat) (dict : Int) (fin : Nat) : Nat → List UInt8 → Nat → R4 → PD → Option (List UInt8 × Nat × R4 × PD)
  | 0, T, st, r, y => if fin ≤ T.length then some (T, st, r, y) else none
  | f + 1, T, st, r, y =>
    if fin ≤ T.length then some (T, st, r, y)
    else if (Md.sym (decIo gd o cap L) lc lp pb st r T 0 0 0 0 0 y).2.2.2.2.out = true then none
    else if (Md.sym (decIo gd o cap L) lc lp pb st r T 0 0 0 0 0 y).1.k = 0 then uread gd o cap L lc lp pb dict fin f (T ++ [(Md.sym (decIo gd o cap L) lc lp pb st r T 0 0 0 0 0 y).1.b]) (Md.sym (decIo gd o cap L) lc lp pb st r T 0 0 0 0 0 y).2.1 (Md.sym (decIo gd o cap L) lc lp pb st r T 0 0 0 0 0 y).2.2.1 (Md.sym (decIo gd o cap L) lc lp pb st r T 0 0 0 0 0 y).2.2.2
    else if min (T.length : Int) dict < (Md.sym (decIo gd o cap L) lc lp pb st r T 0 0 0 0 0 y).2.2.1.1 ∨ fin - T.length < (Md.sym (decIo gd o cap L) lc lp pb st r T 0 0 0 0 0 y).1.l then none
    else uread gd o cap L lc lp pb dict fin f (growN T (Md.sym (decIo gd o cap L) lc lp pb st r T 0 0 0 0 0 y).2.2.1.1.toNat (Md.sym (decIo gd o cap L) lc lp pb st r T 0 0 0 0 0 y).1.l) (Md.sym (decIo gd o cap L) lc lp pb st r T 0 0 0 0 0 y).2.1 (Md.sym (decIo gd o cap L) lc lp pb st r T 0 0 0 0 0 y).2.2.1 (Md.sym (decIo gd o cap L) lc lp pb st r T 0 0 0 0 0 y).2.2.2
section
variable {gd o cap : Nat} {L : List UInt8} {lc lp pb : Nat} {dict : Int} {fin : Nat}
theorem uread_end {f : Nat} {T : List UInt8} {st : Nat} {r : R4} {y : PD} (h : fin ≤ T.length) : uread gd o cap L lc lp pb dict fin f T st r y = some (T, st, r, y) := by
  cases f <;> (unfold uread; rw [if_pos h])
theorem uread_out {f : Nat} {T : List UInt8} {st : Nat} {r : R4} {y y' : PD} {s : Sy} {st' : Nat} {r' : R4} (h : T.length < fin) (hs : Md.sym (decIo gd o cap L) lc lp pb st r T 0 0 0 0 0 y = (s, st', r', y')) (ho : y'.2.out = true) : uread gd o cap L lc lp pb dict fin f T st r y = none := by
  cases f with
  | zero => unfold uread; rw [if_neg (by omega)]
  | succ f => unfold uread; rw [if_neg (by omega), hs, if_pos ho]
theorem uread_lit {f : Nat} {T : List UInt8} {st : Nat} {r : R4} {y y' : PD} {s : Sy} {st' : Nat} {r' : R4} (h : T.length < fin) (hs : Md.sym (decIo gd o cap L) lc lp pb st r T 0 0 0 0 0 y = (s, st', r', y')) (ho : y'.2.out = false) (hk : s.k = 0) : uread gd o cap L lc lp pb dict fin (f + 1) T st r y = uread gd o cap L lc lp pb dict fin f (T ++ [s.b]) st' r' y' := by
  conv => lhs; unfold uread
  rw [if_neg (by omega), hs, if_neg (by rw [ho]; decide), if_pos hk]
theorem uread_bad {f : Nat} {T : List UInt8} {st : Nat} {r : R4} {y y' : PD} {s : Sy} {st' : Nat} {r' : R4} (h : T.length < fin) (hs : Md.sym (decIo gd o cap L) lc lp pb st r T 0 0 0 0 0 y = (s, st', r', y')) (hk : s.k ≠ 0) (hb : min (T.length : Int) dict < r'.1 ∨ fin - T.length < s.l) : uread gd o cap L lc lp pb dict fin f T st r y = none := by
  cases f with
  | zero => unfold uread; rw [if_neg (by omega)]
  | succ f =>
    unfold uread
    rw [if_neg (by omega), hs]
    by_cases ho : y'.2.out = true
    · rw [if_pos ho]
    · rw [if_neg ho, if_neg hk, if_pos hb]
theorem uread_far {f : Nat} {T : List UInt8} {st : Nat} {r : R4} {y y' : PD} {s : Sy} {st' : Nat} {r' : R4} (h : T.length < fin) (hs : Md.sym (decIo gd o cap L) lc lp pb st r T 0 0 0 0 0 y = (s, st', r', y')) (ho : y'.2.out = false) (hk : s.k ≠ 0) (hb : ¬ (min (T.length : Int) dict < r'.1 ∨ fin - T.length < s.l)) : uread gd o cap L lc lp pb dict fin (f + 1) T st r y = uread gd o cap L lc lp pb dict fin f (growN T r'.1.toNat s.l) st' r' y' := by
  conv => lhs; unfold uread
  rw [if_neg (by omega), hs, if_neg (by rw [ho]; decide), if_neg hk, if_neg hb]
end
end Go.Proofs.Ytdkimllfpiphgaa

/- What was coded is read back to bytes, or goes wrong where it should. -/
namespace Go.Proofs.Ytdkimllfpiphgaa
open Go.RowKit

def rPos (r : R4) : Prop := 1 ≤ r.1 ∧ 1 ≤ r.2.1 ∧ 1 ≤ r.2.2.1 ∧ 1 ≤ r.2.2.2
theorem rPos.at {r : R4} (h : rPos r) (n : Nat) : 1 ≤ r4 r.1 r.2.1 r.2.2.1 r.2.2.2 n := by
  obtain ⟨a, b, c, d⟩ := h
  match n with
  | 0 => exact a
  | 1 => exact b
  | 2 => exact c
  | n + 3 => exact d
theorem rPos.front {r : R4} (h : rPos r) {n : Nat} {d : Int} (h1 : 1 ≤ d) : rPos (frontR r n d) := by
  obtain ⟨a, b, c, e⟩ := h
  match n with
  | 0 => exact ⟨h1, b, c, e⟩
  | 1 => exact ⟨h1, a, c, e⟩
  | 2 => exact ⟨h1, a, b, e⟩
  | n + 3 => exact ⟨h1, a, b, c⟩
theorem dist_pos (io : Io) (l : Nat) (dd : Int) (x : io.S) : 1 ≤ (Md.dist io l dd x).1 := by
  unfold Md.dist
  simp only
  split
  · exact Nat.le_add_left _ _
  · split
    · exact Nat.le_add_left _ _
    · exact Nat.le_add_left _ _
theorem sym_rpos {io : Io} {lc lp pb st : Nat} {r : R4} {H : List UInt8} {k l d q : Int} {b : UInt8} {x : io.S} (h : rPos r) : rPos (Md.sym io lc lp pb st r H k b l d q x).2.2.1 := by
  unfold Md.sym
  simp only
  split
  · exact h
  · split
    · exact h.front (by have := dist_pos io (Md.len io 432 (H.length % 2 ^ pb) l (io.bitAt (192 + st) (k != 1) (io.bitAt (16 * st + H.length % 2 ^ pb) (k != 0) x).2).2).1 d (Md.len io 432 (H.length % 2 ^ pb) l (io.bitAt (192 + st) (k != 1) (io.bitAt (16 * st + H.length % 2 ^ pb) (k != 0) x).2).2).2; omega)
    · exact h.front (h.at _)
theorem len_pos (io : Io) (A p : Nat) (l : Int) (x : io.S) : 1 ≤ (Md.len io A p l x).1 := by
  unfold Md.len
  simp only
  split
  · omega
  · split
    · omega
    · omega
theorem rept_pos (io : Io) (st p : Nat) (l q : Int) (x : io.S) : 1 ≤ (Md.rept io st p l q x).1.2 := by
  unfold Md.rept
  simp only
  split
  · split
    · exact Nat.le_refl 1
    · exact len_pos _ _ _ _ _
  · exact len_pos _ _ _ _ _
theorem sym_lpos {io : Io} {lc lp pb st : Nat} {r : R4} {H : List UInt8} {k l d q : Int} {b : UInt8} {x : io.S} (h : (Md.sym io lc lp pb st r H k b l d q x).1.k ≠ 0) : 1 ≤ (Md.sym io lc lp pb st r H k b l d q x).1.l := by
  revert h
  unfold Md.sym
  simp only
  split
  · intro h; exact absurd rfl h
  · split
    · intro _; exact len_pos _ _ _ _ _
    · intro _; exact rept_pos _ _ _ _ _ _
/-- It is the same to read behind a history's end. -/
theorem uread_trim {gd o cap : Nat} {L : List UInt8} {lc lp pb cut : Nat} {dict : Int} {fin : Nat} (hlp : lp ≤ 4) (hpb : pb ≤ 4) : ∀ (f : Nat) (H : List UInt8) (st : Nat) (r : R4) (y : PD), rPos r → (cut = 0 ∨ (cut % 16 = 0 ∧ cut < H.length ∧ r.1 ≤ ((H.length - cut : Nat) : Int) ∧ dict ≤ ((H.length - cut : Nat) : Int))) →
    uread gd o cap L lc lp pb dict fin f (H.drop cut) st r y = (uread gd o cap L lc lp pb dict (fin + cut) f H st r y).map fun q => (q.1.drop cut, q.2) := by
  intro f
  induction f with
  | zero =>
    intro H st r y hr hc
    have hl : (H.drop cut).length = H.length - cut := List.length_drop
    have hcl : cut ≤ H.length := by omega
    unfold uread
    by_cases h : fin ≤ H.length - cut
    · rw [if_pos (by rw [hl]; exact h), if_pos (by omega)]; rfl
    · rw [if_neg (by rw [hl]; exact h), if_neg (by omega)]; rfl
  | succ f ih =>
    intro H st r y hr hc
    have hl : (H.drop cut).length = H.length - cut := List.length_drop
    have hcl : cut ≤ H.length := by omega
    have hs := sym_trim (decIo gd o cap L) (lc := lc) (lp := lp) (pb := pb) (st := st) (cut := cut) (r := r) (H := H) (k := 0) (b := 0) (l := 0) (d := 0) (q := 0) (x := y) hlp hpb hr.1 (by omega)
    obtain ⟨⟨s, st', r', y'⟩, ht⟩ : ∃ t, Md.sym (decIo gd o cap L) lc lp pb st r H 0 0 0 0 0 y = t := ⟨_, rfl⟩
    have hr' : rPos r' := by have := sym_rpos (io := decIo gd o cap L) (lc := lc) (lp := lp) (pb := pb) (st := st) (H := H) (k := 0) (l := 0) (d := 0) (q := 0) (b := 0) (x := y) hr; rw [ht] at this; exact this
    rw [ht] at hs
    by_cases h : fin ≤ H.length - cut
    · rw [uread_end (by rw [hl]; exact h), uread_end (by omega)]; rfl
    · have h1 : (H.drop cut).length < fin := by rw [hl]; omega
      have h2 : H.length < fin + cut := by omega
      by_cases ho : y'.2.out = true
      · rw [uread_out h1 hs ho, uread_out h2 ht ho]; rfl
      · have ho' : y'.2.out = false := by simpa using ho
        by_cases hk : s.k = 0
        · rw [uread_lit h1 hs ho' hk, uread_lit h2 ht ho' hk]
          have e : H.drop cut ++ [s.b] = (H ++ [s.b]).drop cut := by rw [List.drop_append_of_le_length hcl]
          rw [e]
          refine ih (H ++ [s.b]) st' r' y' hr' ?_
          rcases hc with hc | ⟨c1, c2, c3, c4⟩
          · exact .inl hc
          · have e2 : r' = r := by
              have hz : (Md.sym (decIo gd o cap L) lc lp pb st r H 0 0 0 0 0 y).1.k = 0 → (Md.sym (decIo gd o cap L) lc lp pb st r H 0 0 0 0 0 y).2.2.1 = r := by
                unfold Md.sym
                simp only
                split
                · intro _; rfl
                · split
                  · intro h; simp at h
                  · intro h; simp at h
              rw [ht] at hz
              exact hz hk
            rw [e2]
            refine .inr ⟨c1, ?_, ?_, ?_⟩ <;> rw [List.length_append, List.length_singleton] <;> omega
        · by_cases hb : min ((H.drop cut).length : Int) dict < r'.1 ∨ fin - (H.drop cut).length < s.l
          · have hb2 : min (H.length : Int) dict < r'.1 ∨ fin + cut - H.length < s.l := by rw [hl] at hb; omega
            rw [uread_bad h1 hs hk hb, uread_bad h2 ht hk hb2]; rfl
          · have hb2 : ¬ (min (H.length : Int) dict < r'.1 ∨ fin + cut - H.length < s.l) := by rw [hl] at hb; omega
            rw [uread_far h1 hs ho' hk hb, uread_far h2 ht ho' hk hb2]
            have h1r := hr'.1
            rw [hl] at hb
            rw [← growN_drop (by omega) (by omega)]
            have hgl := growN_length H r'.1.toNat s.l
            refine ih (growN H r'.1.toNat s.l) st' r' y' hr' ?_
            rcases hc with hc | ⟨c1, c2, c3, c4⟩
            · exact .inl hc
            · refine .inr ⟨c1, ?_, ?_, ?_⟩ <;> rw [hgl] <;> omega
section
variable {g lc lp pb : Nat} {ss : List Sy} {M : Nat → MSt} {L : List UInt8} {gd o cap : Nat} {dict : Int} {fin : Nat}
theorem Link.front {a b : MSt} {s : Sy} (h : Link g lc lp pb a s b) (hk : s.k ≠ 0) : b.r.1 = distZ a.r (s.k : Nat) (s.d : Nat) (s.r : Nat) := by
  rw [h.r]
  have h2 := h.k
  have h3 := h.q
  rcases (by omega : s.k = 1 ∨ s.k = 2) with e | e
  · rw [e]; simp [repsAfter, distZ]
  · rw [e]
    rcases (by omega : s.r = 0 ∨ s.r = 1 ∨ s.r = 2 ∨ s.r = 3) with e | e | e | e <;> rw [e] <;> simp [repsAfter, distZ, rAt, r4]
theorem Link.grows {a b : MSt} {s : Sy} (h : Link g lc lp pb a s b) : b.H.length = a.H.length + (if s.k = 0 then 1 else s.l) := by
  obtain ⟨bk, _, _, hH⟩ := h.hist
  rw [hH]
  unfold growS
  by_cases hk : s.k = 0
  · rw [if_pos (by omega), if_pos hk]; simp
  · rw [if_neg (by omega), if_neg hk, growN_length]
theorem Chain.longer (h : Chain g lc lp pb ss M) : ∀ d t, t + d ≤ ss.length → (M t).H.length + d ≤ (M (t + d)).H.length
  | 0, _, _ => Nat.le_refl _
  | d + 1, t, ht => by
    have h1 := h.longer d t (by omega)
    have hl := h (t + d) (by omega)
    have h2 := hl.grows
    have h3 := hl.pos
    show (M t).H.length + (d + 1) ≤ (M (t + d + 1)).H.length
    split at h2
    · omega
    · rename_i hk; have := h3 hk; omega
/-- So far it is read as it was coded. -/
theorem Chain.reads (h : Chain g lc lp pb ss M) (h0 : Fair (M 0).x.1) (hok : (M ss.length).x.2.ok) (hL : L = Rc.be (5 + (M ss.length).x.2.k) (M ss.length).x.2.v) {y : PD} (hs : Sim (M ss.length).x.2 L (M 0).x y) :
    ∀ t, (ht : t ≤ ss.length) → (∀ i (hi : i < t), (M (i + 1)).H.length ≤ fin ∧ (ss[i].k ≠ 0 → distZ (M i).r (ss[i].k : Nat) (ss[i].d : Nat) (ss[i].r : Nat) ≤ dict)) →
      ∃ y', Sim (M ss.length).x.2 L (M t).x y' ∧ ∀ f, uread gd o cap L lc lp pb dict fin (f + t) (M 0).H (M 0).st (M 0).r y = uread gd o cap L lc lp pb dict fin f (M t).H (M t).st (M t).r y' := by
  intro t
  induction t with
  | zero => intro _ _; exact ⟨y, hs, fun f => rfl⟩
  | succ t ih =>
    intro ht hc
    obtain ⟨y1, hs1, hf1⟩ := ih (by omega) (fun i hi => hc i (by omega))
    obtain ⟨z, hz, hsz⟩ := h.back h0 hok hL gd o cap (show t < ss.length by omega) hs1
    obtain ⟨c1, c2⟩ := hc t (by omega)
    have hl := h t (by omega)
    obtain ⟨bk, hbk, hbk1, hH⟩ := hl.hist
    have hin := (h.inside h0 (ss.length - (t + 1)) (t + 1) (by omega)).1
    have hout : z.2.out = false := by
      have := hsz.2.1 (by rw [hL, Rc.be_length]; omega)
      rw [this]
    have hg := hl.grows
    have hp := hl.pos
    refine ⟨z, hsz, fun f => ?_⟩
    rw [show f + (t + 1) = (f + 1) + t by omega, hf1 (f + 1)]
    by_cases hk : ss[t].k = 0
    · rw [if_pos hk] at hg
      rw [uread_lit (by omega) hz hout hk]
      have e : (M t).H ++ [ss[t].b] = (M (t + 1)).H := by rw [hH]; unfold growS; rw [if_pos (by omega)]
      rw [e]
    · rw [if_neg hk] at hg
      have hfr := hl.front hk
      have hk' : ((ss[t].k : Nat) : Int) ≠ 0 := by omega
      have hb1 := hbk1 hk'
      have hdd := c2 hk
      have hp1 := hp hk
      rw [uread_far (by omega) hz hout hk (by rw [hfr, hbk] ; rw [hbk] at hdd; omega)]
      have e : growN (M t).H (M (t + 1)).r.1.toNat ss[t].l = (M (t + 1)).H := by rw [hH, hfr, hbk]; unfold growS; rw [if_neg hk', Int.toNat_natCast]
      rw [e]
theorem Chain.fails (h : Chain g lc lp pb ss M) (h0 : Fair (M 0).x.1) (hok : (M ss.length).x.2.ok) (hL : L = Rc.be (5 + (M ss.length).x.2.k) (M ss.length).x.2.v) {y : PD} {t : Nat} (ht : t < ss.length) (hs : Sim (M ss.length).x.2 L (M t).x y) (h1 : (M t).H.length < fin) (hk : ss[t].k ≠ 0) (hb : dict < distZ (M t).r (ss[t].k : Nat) (ss[t].d : Nat) (ss[t].r : Nat) ∨ fin - (M t).H.length < ss[t].l) (f : Nat) :
    uread gd o cap L lc lp pb dict fin f (M t).H (M t).st (M t).r y = none := by
  obtain ⟨z, hz, hsz⟩ := h.back h0 hok hL gd o cap ht hs
  have hfr := (h t ht).front hk
  exact uread_bad h1 hz hk (by rw [hfr]; omega)
end
end Go.Proofs.Ytdkimllfpiphgaa
