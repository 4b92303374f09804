/- What the model coded is decoded as it was: the mathematics. -/
import Derived.Test.YtkckjjchfccdjaaMg6
import Derived.Test.YtkckjjchfccdjaaMdSym
namespace Go.Proofs.Ytkckjjchfccdjaa
set_option maxRecDepth 100000
open Go.RowKit

abbrev PS := (Nat → Nat) × Rc.St
abbrev PD := (Nat → Nat) × Rd.St
def Fair (P : Nat → Nat) : Prop := ∀ i, 1 ≤ P i ∧ P i ≤ 2047
theorem Fair.put {P : Nat → Nat} (h : Fair P) (i : Nat) (b : Bool) : Fair (Md.put P i (Rc.next (P i) b)) := by
  intro j
  unfold Md.put
  split
  · exact Rc.next_bounds (h i).1 (h i).2 b
  · exact h j
def Sim (S : Rc.St) (L : List UInt8) (x : PS) (y : PD) : Prop := y.1 = x.1 ∧ Follows S L x.2 y.2
/-- The decoder does as the encoder did, as long as what was coded at last lies behind it. -/
def Good (S : Rc.St) (L : List UInt8) {α : Type} (f : PS → α × PS) (h : PD → α × PD) : Prop := ∀ x, Fair x.1 → Fair (f x).2.1 ∧ (Rc.Inside (f x).2.2 S → Rc.Inside x.2 S) ∧ ∀ y, Sim S L x y → Rc.Inside (f x).2.2 S → (h y).1 = (f x).1 ∧ Sim S L (f x).2 (h y).2
/-- A distance's number behind its slot. -/
def Md.distG (io : Io) (d s : Nat) (x : io.S) : Nat × io.S :=
  if s < 4 then (s + 1, x)
  else if s < 14 then
    ((2 + s % 2) * 2 ^ (s / 2 - 1) + (Md.rev io (1716 + 32 * s) (s / 2 - 1) (d : Nat) x).1 + 1, (Md.rev io (1716 + 32 * s) (s / 2 - 1) (d : Nat) x).2)
  else
    ((2 + s % 2) * 2 ^ (s / 2 - 1) + (io.plain x.2 (d / 16 % 2 ^ (s / 2 - 1 - 4)) (s / 2 - 1 - 4)).1 % 2 ^ (s / 2 - 1 - 4) * 16 + (Md.rev io 2164 4 (d : Nat) (x.1, (io.plain x.2 (d / 16 % 2 ^ (s / 2 - 1 - 4)) (s / 2 - 1 - 4)).2)).1 + 1, (Md.rev io 2164 4 (d : Nat) (x.1, (io.plain x.2 (d / 16 % 2 ^ (s / 2 - 1 - 4)) (s / 2 - 1 - 4)).2)).2)
section
variable {S : Rc.St} {L : List UInt8} {α β : Type}
theorem good_pure (a : α) : Good S L (fun x => (a, x)) (fun y => (a, y)) := fun _ hx => ⟨hx, fun h => h, fun _ hs _ => ⟨rfl, hs⟩⟩
theorem good_bind {f : PS → α × PS} {h : PD → α × PD} (H : Good S L f h) {g1 : α → PS → β × PS} {g2 : α → PD → β × PD} (K : ∀ a, Good S L (g1 a) (g2 a)) : Good S L (fun x => g1 (f x).1 (f x).2) (fun y => g2 (h y).1 (h y).2) := by
  intro x hx
  obtain ⟨f1, f2, f3⟩ := H x hx
  obtain ⟨k1, k2, k3⟩ := K (f x).1 (f x).2 f1
  refine ⟨k1, fun hi => f2 (k2 hi), fun y hs hi => ?_⟩
  obtain ⟨e, s⟩ := f3 y hs (k2 hi)
  have hk := k3 (h y).2 s hi
  show (g2 (h y).1 (h y).2).1 = (g1 (f x).1 (f x).2).1 ∧ Sim S L (g1 (f x).1 (f x).2).2 (g2 (h y).1 (h y).2).2
  rw [e]; exact hk
theorem good_map {f : PS → α × PS} {h : PD → α × PD} (H : Good S L f h) (φ : α → β) : Good S L (fun x => (φ (f x).1, (f x).2)) (fun y => (φ (h y).1, (h y).2)) :=
  good_bind H (g1 := fun a x => (φ a, x)) (g2 := fun a y => (φ a, y)) fun a => good_pure (φ a)
variable (hA : Agree S L) (hS : 0 < S.r) (hl : 5 + S.k ≤ L.length) (ge gd o cap : Nat)
include hA hS hl
theorem good_bit (i : Nat) (b b' : Bool) : Good S L ((encIo ge).bitAt i b) ((decIo gd o cap L).bitAt i b') := by
  intro x hx
  have hc : Rc.fair (x.1 i) = x.1 i := by have := hx i; unfold Rc.fair; rw [if_neg (by omega)]
  have e1 : (encIo ge).bitAt i b x = (b, Md.put x.1 i (Rc.next (x.1 i) b), x.2.bit (x.1 i) b) := by
    unfold Rc.St.bit
    rw [hc]; rfl
  rw [e1]
  refine ⟨hx.put i b, fun hi => (Rc.inside_bit _ _ _).trans hi, fun y hs hi => ?_⟩
  obtain ⟨h1, h2⟩ := follow_bit hA hS (x.1 i) b hs.2 hi
  rw [hc] at h1 h2
  have h0 : (x.2.bit (x.1 i) b).k ≤ S.k := hi.1
  have h3 := h2 (by omega)
  have e2 : (decIo gd o cap L).bitAt i b' y = ((y.2.bit L (y.1 i)).1, Md.put y.1 i (Rc.next (y.1 i) (y.2.bit L (y.1 i)).1), (y.2.bit L (y.1 i)).2) := rfl
  rw [e2, hs.1, h3]
  exact ⟨rfl, rfl, h1⟩
theorem good_plain (v v' m : Nat) (hv : v < 2 ^ m) : Good S L (fun x => (((encIo ge).plain x.2 v m).1, (x.1, ((encIo ge).plain x.2 v m).2))) (fun y => (((decIo gd o cap L).plain y.2 v' m).1, (y.1, ((decIo gd o cap L).plain y.2 v' m).2))) := by
  intro x hx
  refine ⟨hx, fun hi => (Rc.inside_plain _ _ _).trans hi, fun y hs hi => ?_⟩
  obtain ⟨h1, h2⟩ := follow_plain hA hS hs.2 m v hi
  have h0 : (x.2.plain v m).k ≤ S.k := hi.1
  have h3 := h2 (by omega)
  rw [Nat.mod_eq_of_lt hv] at h3
  exact ⟨h3, hs.1, h1⟩
theorem good_treeGo (at_ : Nat) (v v' : Int) : ∀ n m, Good S L (Md.treeGo (encIo ge) at_ v n m) (Md.treeGo (decIo gd o cap L) at_ v' n m)
  | 0, m => good_pure m
  | n + 1, m => good_bind (good_bit hA hS hl ge gd o cap (at_ + m) (Md.bitOf v n) (Md.bitOf v' n)) (g1 := fun a x => Md.treeGo (encIo ge) at_ v n (2 * m + a.toNat) x) (g2 := fun a y => Md.treeGo (decIo gd o cap L) at_ v' n (2 * m + a.toNat) y) fun a => good_treeGo at_ v v' n (2 * m + a.toNat)
theorem good_tree (at_ n : Nat) (v v' : Int) : Good S L (Md.tree (encIo ge) at_ n v) (Md.tree (decIo gd o cap L) at_ n v') :=
  good_map (good_treeGo hA hS hl ge gd o cap at_ v v' n 1) fun a => a - 2 ^ n
theorem good_revGo (at_ : Nat) (v v' : Int) : ∀ k i m g, Good S L (Md.revGo (encIo ge) at_ v k i m g) (Md.revGo (decIo gd o cap L) at_ v' k i m g)
  | 0, _, _, g => good_pure g
  | k + 1, i, m, g => good_bind (good_bit hA hS hl ge gd o cap (at_ + m) (Md.bitOf v i) (Md.bitOf v' i)) (g1 := fun a x => Md.revGo (encIo ge) at_ v k (i + 1) (2 * m + a.toNat) (g + a.toNat * 2 ^ i) x) (g2 := fun a y => Md.revGo (decIo gd o cap L) at_ v' k (i + 1) (2 * m + a.toNat) (g + a.toNat * 2 ^ i) y) fun a => good_revGo at_ v v' k (i + 1) (2 * m + a.toNat) (g + a.toNat * 2 ^ i)
theorem good_rev (at_ n : Nat) (v v' : Int) : Good S L (Md.rev (encIo ge) at_ n v) (Md.rev (decIo gd o cap L) at_ n v') := good_revGo hA hS hl ge gd o cap at_ v v' n 0 1 0
theorem good_len (A p : Nat) (l l' : Int) : Good S L (Md.len (encIo ge) A p l) (Md.len (decIo gd o cap L) A p l') := by
  refine good_bind (good_bit hA hS hl ge gd o cap A (decide (8 ≤ l - 2)) (decide (8 ≤ l' - 2)))
    (g1 := fun a x => if a = false then (2 + (Md.tree (encIo ge) (A + 2 + 8 * p) 3 (l - 2) x).1, (Md.tree (encIo ge) (A + 2 + 8 * p) 3 (l - 2) x).2)
      else
        let z := (encIo ge).bitAt (A + 1) (decide (16 ≤ l - 2)) x
        if z.1 = false then (10 + (Md.tree (encIo ge) (A + 130 + 8 * p) 3 (l - 2 - 8) z.2).1, (Md.tree (encIo ge) (A + 130 + 8 * p) 3 (l - 2 - 8) z.2).2)
        else (18 + (Md.tree (encIo ge) (A + 258) 8 (l - 2 - 16) z.2).1, (Md.tree (encIo ge) (A + 258) 8 (l - 2 - 16) z.2).2))
    (g2 := fun a x => if a = false then (2 + (Md.tree (decIo gd o cap L) (A + 2 + 8 * p) 3 (l' - 2) x).1, (Md.tree (decIo gd o cap L) (A + 2 + 8 * p) 3 (l' - 2) x).2)
      else
        let z := (decIo gd o cap L).bitAt (A + 1) (decide (16 ≤ l' - 2)) x
        if z.1 = false then (10 + (Md.tree (decIo gd o cap L) (A + 130 + 8 * p) 3 (l' - 2 - 8) z.2).1, (Md.tree (decIo gd o cap L) (A + 130 + 8 * p) 3 (l' - 2 - 8) z.2).2)
        else (18 + (Md.tree (decIo gd o cap L) (A + 258) 8 (l' - 2 - 16) z.2).1, (Md.tree (decIo gd o cap L) (A + 258) 8 (l' - 2 - 16) z.2).2)) ?_
  intro a
  cases a with
  | false => exact good_map (good_tree hA hS hl ge gd o cap (A + 2 + 8 * p) 3 (l - 2) (l' - 2)) fun a => 2 + a
  | true =>
    refine good_bind (good_bit hA hS hl ge gd o cap (A + 1) (decide (16 ≤ l - 2)) (decide (16 ≤ l' - 2)))
      (g1 := fun a x => if a = false then (10 + (Md.tree (encIo ge) (A + 130 + 8 * p) 3 (l - 2 - 8) x).1, (Md.tree (encIo ge) (A + 130 + 8 * p) 3 (l - 2 - 8) x).2)
        else (18 + (Md.tree (encIo ge) (A + 258) 8 (l - 2 - 16) x).1, (Md.tree (encIo ge) (A + 258) 8 (l - 2 - 16) x).2))
      (g2 := fun a x => if a = false then (10 + (Md.tree (decIo gd o cap L) (A + 130 + 8 * p) 3 (l' - 2 - 8) x).1, (Md.tree (decIo gd o cap L) (A + 130 + 8 * p) 3 (l' - 2 - 8) x).2)
        else (18 + (Md.tree (decIo gd o cap L) (A + 258) 8 (l' - 2 - 16) x).1, (Md.tree (decIo gd o cap L) (A + 258) 8 (l' - 2 - 16) x).2)) ?_
    intro a
    cases a with
    | false => exact good_map (good_tree hA hS hl ge gd o cap (A + 130 + 8 * p) 3 (l - 2 - 8) (l' - 2 - 8)) fun a => 10 + a
    | true => exact good_map (good_tree hA hS hl ge gd o cap (A + 258) 8 (l - 2 - 16) (l' - 2 - 16)) fun a => 18 + a
theorem good_dist (l : Nat) (dd dd' : Int) : Good S L (Md.dist (encIo ge) l dd) (Md.dist (decIo gd o cap L) l dd') := by
  obtain ⟨d, hd⟩ : ∃ d, ((dd - 1) % 4294967296).toNat = d := ⟨_, rfl⟩
  obtain ⟨d', hd'⟩ : ∃ d, ((dd' - 1) % 4294967296).toNat = d := ⟨_, rfl⟩
  have key := good_bind (good_tree hA hS hl ge gd o cap (1460 + 64 * min (l - 2) 3) 6 (slotN d : Nat) (slotN d' : Nat)) (g1 := Md.distG (encIo ge) d) (g2 := Md.distG (decIo gd o cap L) d') fun s => by
    unfold Md.distG
    by_cases h4 : s < 4
    · simp only [if_pos h4]
      exact good_pure (s + 1)
    · by_cases h14 : s < 14
      · simp only [if_neg h4, if_pos h14]
        exact good_map (good_rev hA hS hl ge gd o cap (1716 + 32 * s) (s / 2 - 1) (d : Nat) (d' : Nat)) fun a => (2 + s % 2) * 2 ^ (s / 2 - 1) + a + 1
      · simp only [if_neg h4, if_neg h14]
        exact good_bind (good_plain hA hS hl ge gd o cap (d / 16 % 2 ^ (s / 2 - 1 - 4)) (d' / 16 % 2 ^ (s / 2 - 1 - 4)) (s / 2 - 1 - 4) (Nat.mod_lt _ (Nat.pow_pos (by decide))))
          (g1 := fun q x => ((2 + s % 2) * 2 ^ (s / 2 - 1) + q % 2 ^ (s / 2 - 1 - 4) * 16 + (Md.rev (encIo ge) 2164 4 (d : Nat) x).1 + 1, (Md.rev (encIo ge) 2164 4 (d : Nat) x).2))
          (g2 := fun q x => ((2 + s % 2) * 2 ^ (s / 2 - 1) + q % 2 ^ (s / 2 - 1 - 4) * 16 + (Md.rev (decIo gd o cap L) 2164 4 (d' : Nat) x).1 + 1, (Md.rev (decIo gd o cap L) 2164 4 (d' : Nat) x).2)) fun q =>
            good_map (good_rev hA hS hl ge gd o cap 2164 4 (d : Nat) (d' : Nat)) fun a => (2 + s % 2) * 2 ^ (s / 2 - 1) + q % 2 ^ (s / 2 - 1 - 4) * 16 + a + 1
  subst hd hd'
  exact key
theorem good_litGo (T like : Nat) (v v' : Int) : ∀ n m al, Good S L (Md.litGo (encIo ge) T like v n m al) (Md.litGo (decIo gd o cap L) T like v' n m al)
  | 0, m, _ => good_pure m
  | n + 1, m, al => good_bind (good_bit hA hS hl ge gd o cap (T + (if al then m + (256 + 256 * (like / 2 ^ n % 2)) else m)) (Md.bitOf v n) (Md.bitOf v' n)) (g1 := fun a x => Md.litGo (encIo ge) T like v n (2 * m + a.toNat) (al && (a.toNat == like / 2 ^ n % 2)) x) (g2 := fun a y => Md.litGo (decIo gd o cap L) T like v' n (2 * m + a.toNat) (al && (a.toNat == like / 2 ^ n % 2)) y) fun a => good_litGo T like v v' n (2 * m + a.toNat) (al && (a.toNat == like / 2 ^ n % 2))
theorem good_lit (lc lp st : Nat) (a : Int) (H : List UInt8) (v v' : Int) : Good S L (Md.lit (encIo ge) lc lp st a H v) (Md.lit (decIo gd o cap L) lc lp st a H v') :=
  good_map (good_litGo hA hS hl ge gd o cap (2180 + 768 * ctxN lc lp H) (Md.likeN H a) v v' 8 1 (decide (7 ≤ st))) fun a => UInt8.ofNat a
theorem good_which (st : Nat) (q q' : Int) : Good S L (Md.which (encIo ge) st q) (Md.which (decIo gd o cap L) st q') := by
  refine good_bind (good_bit hA hS hl ge gd o cap (204 + st) (q != 0) (q' != 0))
    (g1 := fun a x => if a = false then (0, x) else
      let b := (encIo ge).bitAt (216 + st) (q != 1) x
      if b.1 = false then (1, b.2) else
        let c := (encIo ge).bitAt (228 + st) (q != 2) b.2
        (2 + c.1.toNat, c.2))
    (g2 := fun a x => if a = false then (0, x) else
      let b := (decIo gd o cap L).bitAt (216 + st) (q' != 1) x
      if b.1 = false then (1, b.2) else
        let c := (decIo gd o cap L).bitAt (228 + st) (q' != 2) b.2
        (2 + c.1.toNat, c.2)) ?_
  intro a
  cases a with
  | false => exact good_pure 0
  | true =>
    refine good_bind (good_bit hA hS hl ge gd o cap (216 + st) (q != 1) (q' != 1))
      (g1 := fun b x => if b = false then (1, x) else
        let c := (encIo ge).bitAt (228 + st) (q != 2) x
        (2 + c.1.toNat, c.2))
      (g2 := fun b x => if b = false then (1, x) else
        let c := (decIo gd o cap L).bitAt (228 + st) (q' != 2) x
        (2 + c.1.toNat, c.2)) ?_
    intro b
    cases b with
    | false => exact good_pure 1
    | true => exact good_map (good_bit hA hS hl ge gd o cap (228 + st) (q != 2) (q' != 2)) fun c => 2 + c.toNat
theorem good_rept (st p : Nat) (l l' q q' : Int) : Good S L (Md.rept (encIo ge) st p l q) (Md.rept (decIo gd o cap L) st p l' q') := by
  refine good_bind (good_which hA hS hl ge gd o cap st q q')
    (g1 := fun a x => if a = 0 then
        let s := (encIo ge).bitAt (240 + 16 * st + p) (l != 1) x
        if s.1 = false then ((0, 1), s.2) else
          let n := Md.len (encIo ge) 946 p l s.2
          ((0, n.1), n.2)
      else
        let n := Md.len (encIo ge) 946 p l x
        ((a, n.1), n.2))
    (g2 := fun a x => if a = 0 then
        let s := (decIo gd o cap L).bitAt (240 + 16 * st + p) (l' != 1) x
        if s.1 = false then ((0, 1), s.2) else
          let n := Md.len (decIo gd o cap L) 946 p l' s.2
          ((0, n.1), n.2)
      else
        let n := Md.len (decIo gd o cap L) 946 p l' x
        ((a, n.1), n.2)) ?_
  intro a
  by_cases h0 : a = 0
  · subst h0
    refine good_bind (good_bit hA hS hl ge gd o cap (240 + 16 * st + p) (l != 1) (l' != 1))
      (g1 := fun s x => if s = false then ((0, 1), x) else
          let n := Md.len (encIo ge) 946 p l x
          ((0, n.1), n.2))
      (g2 := fun s x => if s = false then ((0, 1), x) else
          let n := Md.len (decIo gd o cap L) 946 p l' x
          ((0, n.1), n.2)) ?_
    intro s
    cases s with
    | false => exact good_pure (0, 1)
    | true => exact good_map (good_len hA hS hl ge gd o cap 946 p l l') fun n => (0, n)
  · simp only [if_neg h0]
    exact good_map (good_len hA hS hl ge gd o cap 946 p l l') fun n => (a, n)
end
namespace Md
/-- Md.sym with its results first. -/
def sym2 (io : Io) (lc lp pb st : Nat) (r : R4) (H : List UInt8) (k : Int) (b : UInt8) (l d q : Int) (x : io.S) : (Sy × Nat × R4) × io.S :=
  let a := io.bitAt (16 * st + H.length % 2 ^ pb) (k != 0) x
  if a.1 = false then
    let z := lit io lc lp st r.1 H (b.toNat : Nat) a.2
    ((⟨0, z.1, 0, 0, 0⟩, litState st, r), z.2)
  else
    let c := io.bitAt (192 + st) (k != 1) a.2
    if c.1 = false then
      let n := len io 432 (H.length % 2 ^ pb) l c.2
      let z := dist io n.1 d n.2
      ((⟨1, 0, n.1, z.1, 0⟩, (if st < 7 then 7 else 10), frontR r 3 (z.1 : Nat)), z.2)
    else
      let z := rept io st (H.length % 2 ^ pb) l q c.2
      ((⟨2, 0, z.1.2, 0, z.1.1⟩, (if st < 7 then (if z.1.2 = 1 then 9 else 8) else 11), frontR r z.1.1 (r4 r.1 r.2.1 r.2.2.1 r.2.2.2 z.1.1)), z.2)
theorem sym_sym2 (io : Io) (lc lp pb st : Nat) (r : R4) (H : List UInt8) (k : Int) (b : UInt8) (l d q : Int) (x : io.S) : sym io lc lp pb st r H k b l d q x = ((sym2 io lc lp pb st r H k b l d q x).1.1, (sym2 io lc lp pb st r H k b l d q x).1.2.1, (sym2 io lc lp pb st r H k b l d q x).1.2.2, (sym2 io lc lp pb st r H k b l d q x).2) := by
  unfold sym sym2
  by_cases h1 : (io.bitAt (16 * st + H.length % 2 ^ pb) (k != 0) x).1 = false
  · simp only [h1, if_true]
  · simp only [h1]
    by_cases h2 : (io.bitAt (192 + st) (k != 1) (io.bitAt (16 * st + H.length % 2 ^ pb) (k != 0) x).2).1 = false
    · simp only [h2, if_true]; rfl
    · simp only [h2]; rfl
end Md
section
variable {S : Rc.St} {L : List UInt8} (hA : Agree S L) (hS : 0 < S.r) (hl : 5 + S.k ≤ L.length) (ge gd o cap : Nat)
include hA hS hl
theorem good_sym2 (lc lp pb st : Nat) (r : R4) (H : List UInt8) (k k' : Int) (b b' : UInt8) (l l' d d' q q' : Int) : Good S L (Md.sym2 (encIo ge) lc lp pb st r H k b l d q) (Md.sym2 (decIo gd o cap L) lc lp pb st r H k' b' l' d' q') := by
  refine good_bind (good_bit hA hS hl ge gd o cap (16 * st + H.length % 2 ^ pb) (k != 0) (k' != 0))
    (g1 := fun a x => if a = false then
        let z := Md.lit (encIo ge) lc lp st r.1 H (b.toNat : Nat) x
        (((⟨0, z.1, 0, 0, 0⟩ : Sy), litState st, r), z.2)
      else
        let c := (encIo ge).bitAt (192 + st) (k != 1) x
        if c.1 = false then
          let n := Md.len (encIo ge) 432 (H.length % 2 ^ pb) l c.2
          let z := Md.dist (encIo ge) n.1 d n.2
          (((⟨1, 0, n.1, z.1, 0⟩ : Sy), (if st < 7 then 7 else 10 : Nat), frontR r 3 (z.1 : Nat)), z.2)
        else
          let z := Md.rept (encIo ge) st (H.length % 2 ^ pb) l q c.2
          (((⟨2, 0, z.1.2, 0, z.1.1⟩ : Sy), (if st < 7 then (if z.1.2 = 1 then 9 else 8) else 11 : Nat), frontR r z.1.1 (r4 r.1 r.2.1 r.2.2.1 r.2.2.2 z.1.1)), z.2))
    (g2 := fun a x => if a = false then
        let z := Md.lit (decIo gd o cap L) lc lp st r.1 H (b'.toNat : Nat) x
        (((⟨0, z.1, 0, 0, 0⟩ : Sy), litState st, r), z.2)
      else
        let c := (decIo gd o cap L).bitAt (192 + st) (k' != 1) x
        if c.1 = false then
          let n := Md.len (decIo gd o cap L) 432 (H.length % 2 ^ pb) l' c.2
          let z := Md.dist (decIo gd o cap L) n.1 d' n.2
          (((⟨1, 0, n.1, z.1, 0⟩ : Sy), (if st < 7 then 7 else 10 : Nat), frontR r 3 (z.1 : Nat)), z.2)
        else
          let z := Md.rept (decIo gd o cap L) st (H.length % 2 ^ pb) l' q' c.2
          (((⟨2, 0, z.1.2, 0, z.1.1⟩ : Sy), (if st < 7 then (if z.1.2 = 1 then 9 else 8) else 11 : Nat), frontR r z.1.1 (r4 r.1 r.2.1 r.2.2.1 r.2.2.2 z.1.1)), z.2)) ?_
  intro a
  cases a with
  | false => exact good_map (good_lit hA hS hl ge gd o cap lc lp st r.1 H (b.toNat : Nat) (b'.toNat : Nat)) fun z => ((⟨0, z, 0, 0, 0⟩ : Sy), litState st, r)
  | true =>
    refine good_bind (good_bit hA hS hl ge gd o cap (192 + st) (k != 1) (k' != 1))
      (g1 := fun c x => if c = false then
          let n := Md.len (encIo ge) 432 (H.length % 2 ^ pb) l x
          let z := Md.dist (encIo ge) n.1 d n.2
          (((⟨1, 0, n.1, z.1, 0⟩ : Sy), (if st < 7 then 7 else 10 : Nat), frontR r 3 (z.1 : Nat)), z.2)
        else
          let z := Md.rept (encIo ge) st (H.length % 2 ^ pb) l q x
          (((⟨2, 0, z.1.2, 0, z.1.1⟩ : Sy), (if st < 7 then (if z.1.2 = 1 then 9 else 8) else 11 : Nat), frontR r z.1.1 (r4 r.1 r.2.1 r.2.2.1 r.2.2.2 z.1.1)), z.2))
      (g2 := fun c x => if c = false then
          let n := Md.len (decIo gd o cap L) 432 (H.length % 2 ^ pb) l' x
          let z := Md.dist (decIo gd o cap L) n.1 d' n.2
          (((⟨1, 0, n.1, z.1, 0⟩ : Sy), (if st < 7 then 7 else 10 : Nat), frontR r 3 (z.1 : Nat)), z.2)
        else
          let z := Md.rept (decIo gd o cap L) st (H.length % 2 ^ pb) l' q' x
          (((⟨2, 0, z.1.2, 0, z.1.1⟩ : Sy), (if st < 7 then (if z.1.2 = 1 then 9 else 8) else 11 : Nat), frontR r z.1.1 (r4 r.1 r.2.1 r.2.2.1 r.2.2.2 z.1.1)), z.2)) ?_
    intro c
    cases c with
    | false =>
      refine good_bind (good_len hA hS hl ge gd o cap 432 (H.length % 2 ^ pb) l l')
        (g1 := fun n x => (((⟨1, 0, n, (Md.dist (encIo ge) n d x).1, 0⟩ : Sy), (if st < 7 then 7 else 10 : Nat), frontR r 3 ((Md.dist (encIo ge) n d x).1 : Nat)), (Md.dist (encIo ge) n d x).2))
        (g2 := fun n x => (((⟨1, 0, n, (Md.dist (decIo gd o cap L) n d' x).1, 0⟩ : Sy), (if st < 7 then 7 else 10 : Nat), frontR r 3 ((Md.dist (decIo gd o cap L) n d' x).1 : Nat)), (Md.dist (decIo gd o cap L) n d' x).2)) fun n => ?_
      exact good_map (good_dist hA hS hl ge gd o cap n d d') fun z => ((⟨1, 0, n, z, 0⟩ : Sy), (if st < 7 then 7 else 10 : Nat), frontR r 3 (z : Nat))
    | true => exact good_map (good_rept hA hS hl ge gd o cap st (H.length % 2 ^ pb) l l' q q') fun z => ((⟨2, 0, z.2, 0, z.1⟩ : Sy), (if st < 7 then (if z.2 = 1 then 9 else 8) else 11 : Nat), frontR r z.1 (r4 r.1 r.2.1 r.2.2.1 r.2.2.2 z.1))
/-- The decoder tells back the symbol that was coded. -/
theorem sym_back {lc lp pb st : Nat} {r : R4} {H : List UInt8} {k l d q : Int} {b : UInt8} {x z : PS} {s' : Sy} {st' : Nat} {r' : R4} (hx : Fair x.1) (h : Md.sym (encIo ge) lc lp pb st r H k b l d q x = (s', st', r', z)) (hi : Rc.Inside z.2 S) {y : PD} (hs : Sim S L x y) :
    ∃ z' : PD, Md.sym (decIo gd o cap L) lc lp pb st r H 0 0 0 0 0 y = (s', st', r', z') ∧ Sim S L z z' := by
  obtain ⟨_, _, h3⟩ := good_sym2 hA hS hl ge gd o cap lc lp pb st r H k 0 b 0 l 0 d 0 q 0 x hx
  have e := (Md.sym_sym2 (encIo ge) lc lp pb st r H k b l d q x).symm.trans h
  have e1 := congrArg (fun t => t.1) e
  have e2 := congrArg (fun t => t.2.1) e
  have e3 := congrArg (fun t => t.2.2.1) e
  have e4 := congrArg (fun t => t.2.2.2) e
  obtain ⟨k1, k2⟩ := h3 y hs (by rw [show (Md.sym2 (encIo ge) lc lp pb st r H k b l d q x).2 = z from e4]; exact hi)
  refine ⟨(Md.sym2 (decIo gd o cap L) lc lp pb st r H 0 0 0 0 0 y).2, (Md.sym_sym2 (decIo gd o cap L) lc lp pb st r H 0 0 0 0 0 y).trans ?_, ?_⟩
  · exact Prod.ext ((congrArg (fun t => t.1) k1).trans e1) (Prod.ext ((congrArg (fun t => t.2.1) k1).trans e2) (Prod.ext ((congrArg (fun t => t.2.2) k1).trans e3) rfl))
  · rw [show (Md.sym2 (encIo ge) lc lp pb st r H k b l d q x).2 = z from e4] at k2
    exact k2
theorem sym_inside {lc lp pb st : Nat} {r : R4} {H : List UInt8} {k l d q : Int} {b : UInt8} {x z : PS} {s' : Sy} {st' : Nat} {r' : R4} (hx : Fair x.1) (h : Md.sym (encIo ge) lc lp pb st r H k b l d q x = (s', st', r', z)) : Fair z.1 ∧ (Rc.Inside z.2 S → Rc.Inside x.2 S) := by
  obtain ⟨h1, h2, _⟩ := good_sym2 hA hS hl ge 0 0 0 lc lp pb st r H k 0 b 0 l 0 d 0 q 0 x hx
  have e := (Md.sym_sym2 (encIo ge) lc lp pb st r H k b l d q x).symm.trans h
  have e4 : (Md.sym2 (encIo ge) lc lp pb st r H k b l d q x).2 = z := congrArg (fun t => t.2.2.2) e
  rw [e4] at h1 h2
  exact ⟨h1, h2⟩
end
end Go.Proofs.Ytkckjjchfccdjaa
