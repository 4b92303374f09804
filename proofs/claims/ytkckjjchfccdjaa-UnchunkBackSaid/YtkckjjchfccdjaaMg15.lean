/- Several texts in one: MbRun, UcOk. -/
import Derived.Test.YtkckjjchfccdjaaMbSim
import Derived.Test.YtkckjjchfccdjaaMg14
import Derived.Test.YtkckjjchfccdjaaMg13
/- Symbols coded one behind another, and told back. -/
namespace Go.Proofs.Ytkckjjchfccdjaa
set_option maxRecDepth 100000
open Go.RowKit

/-- Where a coder stands. -/
structure MSt where
  H : List UInt8
  st : Nat
  r : R4
  x : PS
/-- A symbol takes the coder from one place to the next. -/
structure Link (g lc lp pb : Nat) (a : MSt) (s : Sy) (b : MSt) : Prop where
  sym : ∃ (k : Int) (c : UInt8) (l d q : Int), Md.sym (encIo g) lc lp pb a.st a.r a.H k c l d q a.x = (s, b.st, b.r, b.x)
  k : s.k ≤ 2
  q : s.r ≤ 3
  short : s.l ≤ 273
  pos : s.k ≠ 0 → 1 ≤ s.l
  hist : ∃ bk : Nat, distZ a.r (s.k : Nat) (s.d : Nat) (s.r : Nat) = (bk : Int) ∧ (((s.k : Nat) : Int) ≠ 0 → 1 ≤ bk ∧ bk ≤ a.H.length) ∧ b.H = growS a.H (s.k : Nat) s.b s.l bk
  st : ((b.st : Nat) : Int) = stateAfter (a.st : Nat) (s.k : Nat) (s.l : Nat)
  r : b.r = repsAfter a.r (s.k : Nat) (s.d : Nat) (s.r : Nat)
  ok : b.x.2.ok
theorem growS_zero (H : List UInt8) (b : UInt8) (l l' back back' : Nat) : growS H 0 b l back = growS H 0 b l' back' := by
  unfold growS
  rw [if_pos rfl, if_pos rfl]
theorem growS_ne {k : Int} (hk : k ≠ 0) (H : List UInt8) (b b' : UInt8) (l back : Nat) : growS H k b l back = growS H k b' l back := by
  unfold growS
  rw [if_neg hk, if_neg hk]
theorem fits_link {g lc lp pb : Nat} {a : MSt} {k : Int} {b : UInt8} {l d q : Int} (hr : rGood a.r) (hf : fitsZ a.r (a.H.length : Int) k l d q = true) :
    ∃ s st' r' z, Md.sym (encIo g) lc lp pb a.st a.r a.H k b l d q a.x = (s, st', r', z) ∧ r' = repsAfter a.r k d q ∧ ((st' : Nat) : Int) = stateAfter (a.st : Nat) k l ∧ s.val = plainZ k b l d q ∧ ∀ bk : Nat, distZ a.r k d q = (bk : Int) → z.2.ok → Link g lc lp pb a s ⟨growS a.H k b l.toNat bk, st', r', z⟩ := by
  have hr1 : ∀ q : Nat, q ≤ 3 → 1 ≤ rAt a.r (q : Nat) := by
    intro q hq
    obtain ⟨⟨a1, a2, a3, a4⟩, _⟩ := hr
    unfold rAt
    rcases (by omega : q = 0 ∨ q = 1 ∨ q = 2 ∨ q = 3) with rfl | rfl | rfl | rfl
    · exact a1
    · exact a2
    · exact a3
    · exact a4
  rcases fitsZ_cases hf with rfl | ⟨rfl, h2, h3, h4, h5, h6⟩ | ⟨rfl, h0, h1, h4, h5⟩
  · obtain ⟨z, hz, _⟩ := sym_lit_enc g lc lp pb a.st a.r a.H b l d q a.x
    refine ⟨_, _, _, _, hz, rfl, lit_state a.st l, rfl, fun bk hbk hok => ?_⟩
    exact ⟨⟨0, b, l, d, q, hz⟩, show 0 ≤ 2 by decide, show 0 ≤ 3 by decide, show 0 ≤ 273 by decide, fun h => absurd rfl h, ⟨0, rfl, fun h => absurd rfl h, growS_zero a.H b l.toNat 0 bk 0⟩, lit_state a.st _, rfl, hok⟩
  · obtain ⟨l, rfl⟩ : ∃ n : Nat, l = n := ⟨l.toNat, by omega⟩
    obtain ⟨d, rfl⟩ : ∃ n : Nat, d = n := ⟨d.toNat, by omega⟩
    obtain ⟨z, hz, _⟩ := sym_match_enc g lc lp pb a.st a.r a.H b l d q (by omega) (by omega) (by omega) (by omega) a.x
    refine ⟨_, _, _, _, hz, rfl, match_state a.st l, rfl, fun bk hbk hok => ?_⟩
    have hd : distZ a.r 1 (d : Nat) q = (d : Int) := by unfold distZ; rw [if_pos rfl]
    rw [hd] at hbk
    refine ⟨⟨1, b, l, d, q, hz⟩, show 1 ≤ 2 by decide, show 0 ≤ 3 by decide, by show l ≤ 273; omega, fun _ => by show 1 ≤ l; omega, ⟨bk, ?_, fun _ => by show 1 ≤ bk ∧ bk ≤ a.H.length; omega, growS_ne (show (1 : Int) ≠ 0 by decide) a.H b 0 l bk⟩, match_state a.st _, rfl, hok⟩
    show distZ a.r 1 (d : Nat) 0 = (bk : Int)
    unfold distZ
    rw [if_pos rfl]; exact hbk
  · obtain ⟨l, rfl⟩ : ∃ n : Nat, l = n := ⟨l.toNat, by omega⟩
    obtain ⟨q, rfl⟩ : ∃ n : Nat, q = n := ⟨q.toNat, by omega⟩
    obtain ⟨z, hz, _⟩ := sym_rept_enc g lc lp pb a.st a.r a.H b l q d (by omega) (by omega) (by omega) (by omega) a.x
    refine ⟨_, _, _, _, hz, rept_reps a.r q (by omega) d, rept_state a.st l, rfl, fun bk hbk hok => ?_⟩
    have hd : distZ a.r 2 d (q : Nat) = rAt a.r (q : Nat) := by unfold distZ; rw [if_neg (by decide), if_pos rfl]
    rw [hd] at hbk
    have h1' := hr1 q (by omega)
    refine ⟨⟨2, b, l, d, q, hz⟩, show 2 ≤ 2 by decide, by show q ≤ 3; omega, by show l ≤ 273; omega, fun _ => by show 1 ≤ l; omega, ⟨bk, ?_, fun _ => by show 1 ≤ bk ∧ bk ≤ a.H.length; omega, growS_ne (show (2 : Int) ≠ 0 by decide) a.H b 0 l bk⟩, rept_state a.st l, rept_reps a.r q (by omega) _, hok⟩
    show distZ a.r 2 0 (q : Nat) = (bk : Int)
    unfold distZ
    rw [if_neg (by decide), if_pos rfl]; exact hbk
/-- The places of a run, and its symbols. -/
def Chain (g lc lp pb : Nat) (ss : List Sy) (M : Nat → MSt) : Prop := ∀ t (h : t < ss.length), Link g lc lp pb (M t) ss[t] (M (t + 1))
theorem Chain.snoc {g lc lp pb : Nat} {ss : List Sy} {M : Nat → MSt} {s : Sy} {b : MSt} (h : Chain g lc lp pb ss M) (hl : Link g lc lp pb (M ss.length) s b) : Chain g lc lp pb (ss ++ [s]) (fun t => if t ≤ ss.length then M t else b) ∧ (if (ss ++ [s]).length ≤ ss.length then M (ss ++ [s]).length else b) = b := by
  refine ⟨fun t ht => ?_, if_neg (by simp)⟩
  have ht' : t < ss.length + 1 := by simpa using ht
  show Link g lc lp pb (if t ≤ ss.length then M t else b) (ss ++ [s])[t] (if t + 1 ≤ ss.length then M (t + 1) else b)
  rw [if_pos (show t ≤ ss.length by omega)]
  by_cases h1 : t < ss.length
  · rw [if_pos (show t + 1 ≤ ss.length by omega), List.getElem_append_left h1]
    exact h t h1
  · obtain rfl : t = ss.length := by omega
    rw [if_neg (show ¬ ss.length + 1 ≤ ss.length by omega)]
    simpa using hl
theorem Link.step {g lc lp pb : Nat} {a b : MSt} {s : Sy} (h : Link g lc lp pb a s b) (hf : Fair a.x.1) : Fair b.x.1 ∧ Rc.Inside a.x.2 b.x.2 := by
  obtain ⟨k, c, l, d, q, hs⟩ := h.sym
  obtain ⟨h1, h2⟩ := sym_inside (be_agree b.x.2) (by have := h.ok.2; omega) (by rw [Rc.be_length]; exact Nat.le_refl _) g hf hs
  exact ⟨h1, h2 (Rc.Inside.refl _)⟩
theorem Chain.fair {g lc lp pb : Nat} {ss : List Sy} {M : Nat → MSt} (h : Chain g lc lp pb ss M) (h0 : Fair (M 0).x.1) : ∀ t, t ≤ ss.length → Fair (M t).x.1
  | 0, _ => h0
  | t + 1, ht => ((h t (by omega)).step (h.fair h0 t (by omega))).1
theorem Chain.inside {g lc lp pb : Nat} {ss : List Sy} {M : Nat → MSt} (h : Chain g lc lp pb ss M) (h0 : Fair (M 0).x.1) : ∀ n t, t + n = ss.length → Rc.Inside (M t).x.2 (M ss.length).x.2
  | 0, t, e => by
    have : t = ss.length := by omega
    subst this; exact Rc.Inside.refl _
  | n + 1, t, e => ((h t (by omega)).step (h.fair h0 t (by omega))).2.trans (h.inside h0 n (t + 1) (by omega))
/-- One symbol is told back. -/
theorem Chain.back {g lc lp pb : Nat} {ss : List Sy} {M : Nat → MSt} (h : Chain g lc lp pb ss M) (h0 : Fair (M 0).x.1) (hok : (M ss.length).x.2.ok) {L : List UInt8} (hL : L = Rc.be (5 + (M ss.length).x.2.k) (M ss.length).x.2.v) (gd o cap : Nat) {t : Nat} (ht : t < ss.length) {y : PD} (hs : Sim (M ss.length).x.2 L (M t).x y) :
    ∃ z' : PD, Md.sym (decIo gd o cap L) lc lp pb (M t).st (M t).r (M t).H 0 0 0 0 0 y = (ss[t], (M (t + 1)).st, (M (t + 1)).r, z') ∧ Sim (M ss.length).x.2 L (M (t + 1)).x z' := by
  subst hL
  obtain ⟨k, c, l, d, q, hsy⟩ := (h t ht).sym
  exact sym_back (be_agree _) (by have := hok.2; omega) (by rw [Rc.be_length]; exact Nat.le_refl _) g gd o cap (h.fair h0 t (by omega)) hsy (h.inside h0 (ss.length - (t + 1)) (t + 1) (by omega)) hs
theorem sim_start {S : Rc.St} {L : List UInt8} (hok : S.ok) (hL : L = Rc.be (5 + S.k) S.v) : Sim S L (fun _ => 1024, st0) (fun _ => 1024, Rd.start L) := by
  subst hL
  exact ⟨rfl, follow_start (be_agree S) hok (by rw [Rc.be_length]; omega)⟩
/-- All is read. -/
theorem sim_done {S : Rc.St} {L : List UInt8} {P : Nat → Nat} {y : PD} (hL : L = Rc.be (5 + S.k) S.v) (h : Sim S L (P, S) y) : y.2.done L = true := by
  subst hL
  have hl : (Rc.be (5 + S.k) S.v).length = 5 + S.k := Rc.be_length _ _
  have h1 := h.2.1 (by rw [hl]; exact Nat.le_refl _)
  have ht : Rc.top S S.k = S.v := by unfold Rc.top; simp
  rw [ht, Nat.sub_self] at h1
  rw [h1]
  unfold Rd.St.done
  rw [hl]; simp
end Go.Proofs.Ytkckjjchfccdjaa

/- A symbol that is coded leaves the coder of bits as one that can go on. -/
namespace Go.Proofs.Ytkckjjchfccdjaa
set_option maxRecDepth 100000
open Go.RowKit

def OkF (ge n : Nat) {α : Type} (f : PS → α × PS) : Prop := ∀ x k, Fair x.1 → (encIo ge).ok x.2 (k + n) → Fair (f x).2.1 ∧ (encIo ge).ok (f x).2.2 k
section
variable {ge n m : Nat} {α β : Type}
theorem okf_pure (a : α) : OkF ge 0 (fun x => (a, x)) := fun _ _ hx h => ⟨hx, h⟩
theorem okf_le {f : PS → α × PS} (H : OkF ge n f) (h : n ≤ m) : OkF ge m f := fun x k hx hk => H x k hx ((encIo ge).le hk (by omega))
theorem okf_bindP {f : PS → α × PS} (H : OkF ge n f) (p : α → Prop) (hp : ∀ x, p (f x).1) {g1 : α → PS → β × PS} (K : ∀ a, p a → OkF ge m (g1 a)) : OkF ge (n + m) (fun x => g1 (f x).1 (f x).2) := by
  intro x k hx h
  obtain ⟨f1, f2⟩ := H x (k + m) hx (by rw [show k + m + n = k + (n + m) by omega]; exact h)
  exact K _ (hp x) _ k f1 f2
theorem okf_bind {f : PS → α × PS} (H : OkF ge n f) {g1 : α → PS → β × PS} (K : ∀ a, OkF ge m (g1 a)) : OkF ge (n + m) (fun x => g1 (f x).1 (f x).2) :=
  okf_bindP H (fun _ => True) (fun _ => trivial) fun a _ => K a
theorem okf_map {f : PS → α × PS} (H : OkF ge n f) (φ : α → β) : OkF ge n (fun x => (φ (f x).1, (f x).2)) := fun x k hx h => H x k hx h
theorem okf_bit (i : Nat) (b : Bool) : OkF ge 1 ((encIo ge).bitAt i b) := fun _ _ hx h => ⟨hx.put i b, (encIo ge).okBitAt h (hx i)⟩
theorem okf_plain (v m : Nat) (hm : m ≤ 32) : OkF ge 32 (fun x => (((encIo ge).plain x.2 v m).1, (x.1, ((encIo ge).plain x.2 v m).2))) := fun _ _ hx h => ⟨hx, (encIo ge).okPlain h hm⟩
theorem okf_treeGo (at_ : Nat) (v : Int) : ∀ n m, OkF ge n (Md.treeGo (encIo ge) at_ v n m)
  | 0, m => okf_pure m
  | n + 1, m => okf_le (okf_bind (okf_bit (at_ + m) (Md.bitOf v n)) (g1 := fun a x => Md.treeGo (encIo ge) at_ v n (2 * m + a.toNat) x) fun a => okf_treeGo at_ v n (2 * m + a.toNat)) (by omega)
theorem okf_tree (at_ n : Nat) (v : Int) : OkF ge n (Md.tree (encIo ge) at_ n v) := okf_map (okf_treeGo at_ v n 1) fun a => a - 2 ^ n
theorem okf_revGo (at_ : Nat) (v : Int) : ∀ k i m g, OkF ge k (Md.revGo (encIo ge) at_ v k i m g)
  | 0, _, _, g => okf_pure g
  | k + 1, i, m, g => okf_le (okf_bind (okf_bit (at_ + m) (Md.bitOf v i)) (g1 := fun a x => Md.revGo (encIo ge) at_ v k (i + 1) (2 * m + a.toNat) (g + a.toNat * 2 ^ i) x) fun a => okf_revGo at_ v k (i + 1) (2 * m + a.toNat) (g + a.toNat * 2 ^ i)) (by omega)
theorem okf_rev (at_ n : Nat) (v : Int) : OkF ge n (Md.rev (encIo ge) at_ n v) := okf_revGo at_ v n 0 1 0
theorem okf_len (A p : Nat) (l : Int) : OkF ge 10 (Md.len (encIo ge) A p l) := by
  refine okf_bind (n := 1) (m := 9) (okf_bit A (decide (8 ≤ l - 2)))
    (g1 := fun a x => if a = false then (2 + (Md.tree (encIo ge) (A + 2 + 8 * p) 3 (l - 2) x).1, (Md.tree (encIo ge) (A + 2 + 8 * p) 3 (l - 2) x).2)
      else
        let z := (encIo ge).bitAt (A + 1) (decide (16 ≤ l - 2)) x
        if z.1 = false then (10 + (Md.tree (encIo ge) (A + 130 + 8 * p) 3 (l - 2 - 8) z.2).1, (Md.tree (encIo ge) (A + 130 + 8 * p) 3 (l - 2 - 8) z.2).2)
        else (18 + (Md.tree (encIo ge) (A + 258) 8 (l - 2 - 16) z.2).1, (Md.tree (encIo ge) (A + 258) 8 (l - 2 - 16) z.2).2)) ?_
  intro a
  cases a with
  | false => exact okf_le (okf_map (okf_tree (A + 2 + 8 * p) 3 (l - 2)) fun a => 2 + a) (by omega)
  | true =>
    refine okf_bind (n := 1) (m := 8) (okf_bit (A + 1) (decide (16 ≤ l - 2)))
      (g1 := fun a x => if a = false then (10 + (Md.tree (encIo ge) (A + 130 + 8 * p) 3 (l - 2 - 8) x).1, (Md.tree (encIo ge) (A + 130 + 8 * p) 3 (l - 2 - 8) x).2)
        else (18 + (Md.tree (encIo ge) (A + 258) 8 (l - 2 - 16) x).1, (Md.tree (encIo ge) (A + 258) 8 (l - 2 - 16) x).2)) ?_
    intro a
    cases a with
    | false => exact okf_le (okf_map (okf_tree (A + 130 + 8 * p) 3 (l - 2 - 8)) fun a => 10 + a) (by omega)
    | true => exact okf_map (okf_tree (A + 258) 8 (l - 2 - 16)) fun a => 18 + a
theorem okf_dist (l : Nat) (dd : Int) : OkF ge 42 (Md.dist (encIo ge) l dd) := by
  obtain ⟨d, hd⟩ : ∃ d, ((dd - 1) % 4294967296).toNat = d := ⟨_, rfl⟩
  have key := okf_bindP (n := 6) (m := 36) (okf_tree (ge := ge) (1460 + 64 * min (l - 2) 3) 6 (slotN d : Nat)) (fun s => s < 64) (fun x => (Md.tree_lt (encIo ge) _ 6 _ x).2) (g1 := Md.distG (encIo ge) d) fun s hs => by
    unfold Md.distG
    by_cases h4 : s < 4
    · simp only [if_pos h4]
      exact okf_le (okf_pure (s + 1)) (by omega)
    · by_cases h14 : s < 14
      · simp only [if_neg h4, if_pos h14]
        exact okf_le (okf_map (okf_rev (1716 + 32 * s) (s / 2 - 1) (d : Nat)) fun a => (2 + s % 2) * 2 ^ (s / 2 - 1) + a + 1) (by omega)
      · simp only [if_neg h4, if_neg h14]
        exact okf_bind (n := 32) (m := 4) (okf_plain (d / 16 % 2 ^ (s / 2 - 1 - 4)) (s / 2 - 1 - 4) (by omega))
          (g1 := fun q x => ((2 + s % 2) * 2 ^ (s / 2 - 1) + q % 2 ^ (s / 2 - 1 - 4) * 16 + (Md.rev (encIo ge) 2164 4 (d : Nat) x).1 + 1, (Md.rev (encIo ge) 2164 4 (d : Nat) x).2)) fun q =>
            okf_map (okf_rev 2164 4 (d : Nat)) fun a => (2 + s % 2) * 2 ^ (s / 2 - 1) + q % 2 ^ (s / 2 - 1 - 4) * 16 + a + 1
  subst hd
  exact key
theorem okf_litGo (T like : Nat) (v : Int) : ∀ n m al, OkF ge n (Md.litGo (encIo ge) T like v n m al)
  | 0, m, _ => okf_pure m
  | n + 1, m, al => okf_le (okf_bind (okf_bit (T + (if al then m + (256 + 256 * (like / 2 ^ n % 2)) else m)) (Md.bitOf v n)) (g1 := fun a x => Md.litGo (encIo ge) T like v n (2 * m + a.toNat) (al && (a.toNat == like / 2 ^ n % 2)) x) fun a => okf_litGo T like v n (2 * m + a.toNat) (al && (a.toNat == like / 2 ^ n % 2))) (by omega)
theorem okf_lit (lc lp st : Nat) (a : Int) (H : List UInt8) (v : Int) : OkF ge 8 (Md.lit (encIo ge) lc lp st a H v) :=
  okf_map (okf_litGo (2180 + 768 * ctxN lc lp H) (Md.likeN H a) v 8 1 (decide (7 ≤ st))) fun a => UInt8.ofNat a
theorem okf_which (st : Nat) (q : Int) : OkF ge 3 (Md.which (encIo ge) st q) := by
  refine okf_bind (n := 1) (m := 2) (okf_bit (204 + st) (q != 0))
    (g1 := fun a x => if a = false then (0, x) else
      let b := (encIo ge).bitAt (216 + st) (q != 1) x
      if b.1 = false then (1, b.2) else
        let c := (encIo ge).bitAt (228 + st) (q != 2) b.2
        (2 + c.1.toNat, c.2)) ?_
  intro a
  cases a with
  | false => exact okf_le (okf_pure 0) (by omega)
  | true =>
    refine okf_bind (n := 1) (m := 1) (okf_bit (216 + st) (q != 1))
      (g1 := fun b x => if b = false then (1, x) else
        let c := (encIo ge).bitAt (228 + st) (q != 2) x
        (2 + c.1.toNat, c.2)) ?_
    intro b
    cases b with
    | false => exact okf_le (okf_pure 1) (by omega)
    | true => exact okf_map (okf_bit (228 + st) (q != 2)) fun c => 2 + c.toNat
theorem okf_rept (st p : Nat) (l q : Int) : OkF ge 14 (Md.rept (encIo ge) st p l q) := by
  refine okf_bind (n := 3) (m := 11) (okf_which st q)
    (g1 := fun a x => if a = 0 then
        let s := (encIo ge).bitAt (240 + 16 * st + p) (l != 1) x
        if s.1 = false then ((0, 1), s.2) else
          let n := Md.len (encIo ge) 946 p l s.2
          ((0, n.1), n.2)
      else
        let n := Md.len (encIo ge) 946 p l x
        ((a, n.1), n.2)) ?_
  intro a
  by_cases h0 : a = 0
  · subst h0
    refine okf_bind (n := 1) (m := 10) (okf_bit (240 + 16 * st + p) (l != 1))
      (g1 := fun s x => if s = false then ((0, 1), x) else
          let n := Md.len (encIo ge) 946 p l x
          ((0, n.1), n.2)) ?_
    intro s
    cases s with
    | false => exact okf_le (okf_pure (0, 1)) (by omega)
    | true => exact okf_map (okf_len 946 p l) fun n => (0, n)
  · simp only [if_neg h0]
    exact okf_le (okf_map (okf_len 946 p l) fun n => (a, n)) (by omega)
theorem okf_sym2 (lc lp pb st : Nat) (r : R4) (H : List UInt8) (k : Int) (b : UInt8) (l d q : Int) : OkF ge 54 (Md.sym2 (encIo ge) lc lp pb st r H k b l d q) := by
  refine okf_bind (n := 1) (m := 53) (okf_bit (16 * st + H.length % 2 ^ pb) (k != 0))
    (g1 := fun a x => if a = false then
        let z := Md.lit (encIo ge) lc lp st r.1 H (b.toNat : Nat) x
        (((⟨0, z.1, 0, 0, 0⟩ : Sy), litState st, r), z.2)
      else
        let c := (encIo ge).bitAt (192 + st) (k != 1) x
        if c.1 = false then
          let n := Md.len (encIo ge) 432 (H.length % 2 ^ pb) l c.2
          let z := Md.dist (encIo ge) n.1 d n.2
          (((⟨1, 0, n.1, z.1, 0⟩ : Sy), (if st < 7 then 7 else 10 : Nat), frontR r 3 (z.1 : Nat)), z.2)
        else
          let z := Md.rept (encIo ge) st (H.length % 2 ^ pb) l q c.2
          (((⟨2, 0, z.1.2, 0, z.1.1⟩ : Sy), (if st < 7 then (if z.1.2 = 1 then 9 else 8) else 11 : Nat), frontR r z.1.1 (r4 r.1 r.2.1 r.2.2.1 r.2.2.2 z.1.1)), z.2)) ?_
  intro a
  cases a with
  | false => exact okf_le (okf_map (okf_lit lc lp st r.1 H (b.toNat : Nat)) fun z => ((⟨0, z, 0, 0, 0⟩ : Sy), litState st, r)) (by omega)
  | true =>
    refine okf_bind (n := 1) (m := 52) (okf_bit (192 + st) (k != 1))
      (g1 := fun c x => if c = false then
          let n := Md.len (encIo ge) 432 (H.length % 2 ^ pb) l x
          let z := Md.dist (encIo ge) n.1 d n.2
          (((⟨1, 0, n.1, z.1, 0⟩ : Sy), (if st < 7 then 7 else 10 : Nat), frontR r 3 (z.1 : Nat)), z.2)
        else
          let z := Md.rept (encIo ge) st (H.length % 2 ^ pb) l q x
          (((⟨2, 0, z.1.2, 0, z.1.1⟩ : Sy), (if st < 7 then (if z.1.2 = 1 then 9 else 8) else 11 : Nat), frontR r z.1.1 (r4 r.1 r.2.1 r.2.2.1 r.2.2.2 z.1.1)), z.2)) ?_
    intro c
    cases c with
    | false =>
      exact okf_bind (n := 10) (m := 42) (okf_len 432 (H.length % 2 ^ pb) l)
        (g1 := fun n x => (((⟨1, 0, n, (Md.dist (encIo ge) n d x).1, 0⟩ : Sy), (if st < 7 then 7 else 10 : Nat), frontR r 3 ((Md.dist (encIo ge) n d x).1 : Nat)), (Md.dist (encIo ge) n d x).2)) fun n =>
        okf_map (okf_dist n d) fun z => ((⟨1, 0, n, z, 0⟩ : Sy), (if st < 7 then 7 else 10 : Nat), frontR r 3 (z : Nat))
    | true => exact okf_le (okf_map (okf_rept st (H.length % 2 ^ pb) l q) fun z => ((⟨2, 0, z.2, 0, z.1⟩ : Sy), (if st < 7 then (if z.2 = 1 then 9 else 8) else 11 : Nat), frontR r z.1 (r4 r.1 r.2.1 r.2.2.1 r.2.2.2 z.1))) (by omega)
theorem sym_okf {lc lp pb st : Nat} {r : R4} {H : List UInt8} {k l d q : Int} {b : UInt8} {x z : PS} {s' : Sy} {st' : Nat} {r' : R4} {c : Nat} (hx : Fair x.1) (hk : (encIo ge).ok x.2 (c + 54)) (h : Md.sym (encIo ge) lc lp pb st r H k b l d q x = (s', st', r', z)) : Fair z.1 ∧ (encIo ge).ok z.2 c := by
  have h1 := okf_sym2 (ge := ge) lc lp pb st r H k b l d q x c hx hk
  have e := (Md.sym_sym2 (encIo ge) lc lp pb st r H k b l d q x).symm.trans h
  have e4 : (Md.sym2 (encIo ge) lc lp pb st r H k b l d q x).2 = z := congrArg (fun t => t.2.2.2) e
  rw [e4] at h1
  exact h1
end
end Go.Proofs.Ytkckjjchfccdjaa
